import itertools
import unittest

from pactroom.errors import NoThing
from pactroom.things import is_whole, read_thing, shown

SIGNS = "".join(chr(number) for number in range(32, 127) if number != 37)


def nested(deep):
    thing = ()
    for _ in range(deep - 1):
        thing = (thing,)
    return thing


def of_length(length):
    """A thing whose text has just so many signs, and that keeps to all other bounds."""
    parts = ["a" * 2000] * 49
    rest = length - len(shown(tuple(parts))) - len(" 1000:")
    return tuple(parts + ["b" * rest])


class WholeTest(unittest.TestCase):
    def test_whole_numbers(self):
        for number in (0, 1, -1, 7, 10 ** 400, -10 ** 5000):
            self.assertIs(is_whole(number), True)

    def test_truths_are_none(self):
        self.assertIs(is_whole(True), False)
        self.assertIs(is_whole(False), False)

    def test_other_kinds_are_none(self):
        for thing in (None, "", "7", (), (7,), [], [7], {}, {7: 7}, {7}, 7.0, b"7", int, object(), is_whole):
            self.assertIs(is_whole(thing), False)


class ThereAndBackTest(unittest.TestCase):
    def check(self, thing, text):
        self.assertEqual(shown(thing), text)
        again = read_thing(text)
        self.assertEqual(again, thing)
        self.assertEqual(repr(again), repr(thing))

    def test_numbers(self):
        for number in (0, 1, -1, 9, 10, -10, 100, 1000003, -1000003):
            self.check(number, str(number))

    def test_numbers_of_most_figures(self):
        for figures in ("9" * 400, "1" + "0" * 399):
            self.check(int(figures), figures)
            self.check(-int(figures), "-" + figures)

    def test_texts(self):
        self.check("", "0:")
        self.check("a b", "3:a b")
        self.check("7", "1:7")
        self.check("-0", "2:-0")
        self.check("(1 2)", "5:(1 2)")
        self.check("3:abc", "5:3:abc")
        self.check(":", "1::")
        self.check("  ", "2:  ")
        self.check(SIGNS, str(len(SIGNS)) + ":" + SIGNS)

    def test_every_sign_by_itself(self):
        for sign in SIGNS:
            self.check(sign, "1:" + sign)
            self.check((sign, 0, sign), "(1:" + sign + " 0 1:" + sign + ")")

    def test_texts_of_most_signs(self):
        self.check("x" * 2000, "2000:" + "x" * 2000)
        self.check(" " * 1999, "1999:" + " " * 1999)

    def test_tuples(self):
        self.check((), "()")
        self.check((0,), "(0)")
        self.check((1, 2, 3), "(1 2 3)")
        self.check(((), ((),)), "(() (()))")
        self.check(("",), "(0:)")
        self.check((" ", ")", "(", ""), "(1:  1:) 1:( 0:)")

    def test_tuples_of_most_things(self):
        self.check((0,) * 2000, "(" + " ".join(["0"] * 2000) + ")")
        self.check(((),) * 2000, "(" + " ".join(["()"] * 2000) + ")")

    def test_most_deep(self):
        self.check(nested(8), "(" * 8 + ")" * 8)
        self.check((7, nested(7), 7), "(7 " + "(" * 7 + ")" * 7 + " 7)")
        inner = 5
        for _ in range(8):
            inner = ("a", inner)
        self.check(inner, "(1:a " * 8 + "5" + ")" * 8)

    def test_the_example_of_the_document(self):
        self.check((7, -12, "a b", (), ("",)), "(7 -12 3:a b () (0:))")

    def test_the_longest_text(self):
        thing = of_length(100000)
        self.assertEqual(len(shown(thing)), 100000)
        self.assertEqual(read_thing(shown(thing)), thing)

    def test_a_shown_thing_tells_just_itself(self):
        parts = [0, 1, -1, 10, "", "0", "1", " ", "()", (), (0,), ("",), ((),)]
        things = parts + [pair for pair in itertools.product(parts, parts)]
        self.assertEqual(len({shown(thing) for thing in things}), len(things))
        for thing in things:
            self.assertEqual(read_thing(shown(thing)), thing)


class BeyondTest(unittest.TestCase):
    """Showing refuses nothing that lies somewhat beyond the bounds; reading does."""

    def check(self, thing, text):
        self.assertEqual(shown(thing), text)
        with self.assertRaises(NoThing):
            read_thing(text)

    def test_more_figures(self):
        for figures in ("1" + "0" * 400, "9" * 401, "9" * 4000):
            self.check(int(figures), figures)
            self.check(-int(figures), "-" + figures)
            self.check((int(figures),), "(" + figures + ")")

    def test_more_signs(self):
        self.check("x" * 2001, "2001:" + "x" * 2001)
        self.check(("x" * 2001,), "(2001:" + "x" * 2001 + ")")

    def test_more_things(self):
        self.check((0,) * 2001, "(" + " ".join(["0"] * 2001) + ")")
        self.check((1, (0,) * 2001), "(1 (" + " ".join(["0"] * 2001) + "))")

    def test_deeper(self):
        self.check(nested(9), "(" * 9 + ")" * 9)
        self.check((0, nested(8), 0), "(0 " + "(" * 8 + ")" * 8 + " 0)")
        self.check(nested(40), "(" * 40 + ")" * 40)

    def test_longer(self):
        for length in (100001, 100002, 100050):
            thing = of_length(length)
            self.assertEqual(len(shown(thing)), length)
            self.check(thing, shown(thing))


class RefusedTest(unittest.TestCase):
    def refused(self, *texts):
        for text in texts:
            with self.assertRaises(NoThing, msg=repr(text[:80])):
                read_thing(text)

    def test_the_empty_text(self):
        self.refused("")

    def test_noughts_ahead(self):
        self.refused("00", "01", "007", "-01", "-0", "-00", "(00)", "(-0)", "(1 -0)", "0" * 400 + "1")
        self.refused("00:", "01:a", "03:abc", "-0:", "-1:a")

    def test_numbers_that_are_none(self):
        self.refused("-", "--1", "+1", "1-", "1-1", "- 1", "1.0", "1_0", "0x1", "1e1", "a", "-a", ":", ":a")

    def test_figures_of_other_scripts(self):
        self.refused("\u0661", "\u00b2", "(\u0661)", "\u0661:a", "1\u0661", "\uff11")

    def test_counts_that_do_not_fit(self):
        self.refused("1:", "2:a", "3:ab", "0:a", "1:ab", "(1:)", "(2:a)", "(0:a)", "(1:ab)", "(9:a b c d)")
        self.refused("2000:" + "x" * 1999, "2000:" + "x" * 2001, "9" * 300 + ":a", "9" * 5000 + ":a")

    def test_signs_that_no_text_has(self):
        for sign in ("\x25", "\n", "\t", "\r", "\x00", "\x1f", "\x7f", "\x80", "\u00e4", "\u20ac", "\U0001f600"):
            self.refused(sign, "1:" + sign, "3:a" + sign + "b", "(1:" + sign + ")", "(1 3:a" + sign + "b)")
            self.refused("(1" + sign + "2)", "7" + sign, sign + "7", "()" + sign, "2000:" + sign + "x" * 1999)

    def test_blanks(self):
        self.refused(" ", "1 ", " 1", "1 2", "( )", "( 1)", "(1 )", "(1  2)", "(  )", "(1 2 )", " ()", "() ")
        self.refused("3 :abc", "( 3:abc)", "(0:  0:)", "(()())", "(1())", "(()1)", "(0:0:)", "(0:())", "(1,2)")

    def test_brackets(self):
        self.refused("(", ")", "(()", "())", "(1", "1)", "(1 2", "(1 (2)", "[1]", "(1 2))", ")(")

    def test_something_left_behind(self):
        self.refused("()1", "() 1", "()()", "() ()", "1()", "0:()", "1:a1", "1:a 1", "7:", "1 :", "(1)2:ab", "0a")

    def test_deep_and_long_texts_that_are_none(self):
        self.refused("(" * 9, "(" * 100000, "(" * 100001, ")" * 100000, "(" * 50000 + ")" * 50000)
        self.refused("9" * 5000, "-" + "9" * 5000, "9" * 100000, "9" * 100001, " " * 100000, "(" * 1000000)

    def test_every_short_text_is_refused_or_just_the_things_own(self):
        read = 0
        for length in range(7):
            for signs in itertools.product("(0 1:-)", repeat=length):
                text = "".join(signs)
                try:
                    thing = read_thing(text)
                except NoThing:
                    continue
                read += 1
                self.assertEqual(shown(thing), text)
        self.assertGreater(read, 100)

    def test_a_cut_tuple_is_refused(self):
        text = shown((7, -12, "a b", (), ("", "(1)"), 400))
        for length in range(len(text)):
            self.refused(text[:length])


if __name__ == "__main__":
    unittest.main()
