import unittest

from pactroom.books import line, mark, rows_of, written
from pactroom.things import shown

SIGNS = [chr(number) for number in range(32, 127) if number != 37] + ["\n", "\t"]

ROWS = [
    ("begin", (0, 3), "held take 0 1; plus -5"),
    (),
    ("a) 35", -12, "", ("(0:)", "12 7")),
    ("work", (10, 100)),
    ((), ((),), "  ", 0),
]


def marked(text):
    return text + " " + str(mark(text)) + "\n"


def ahead_of(rows, place):
    """The rows whose lines end ahead of the sign at this place."""
    end = 0
    kept = []
    for row in rows:
        end += len(line(row))
        if end > place:
            break
        kept.append(row)
    return kept


class MarkTest(unittest.TestCase):
    def test_reckoned_by_hand(self):
        self.assertEqual(mark(""), 0)
        self.assertEqual(mark(" "), 32)
        self.assertEqual(mark("a"), 97)
        self.assertEqual(mark("ab"), 97 + 2 * 98)
        self.assertEqual(mark("ba"), 98 + 2 * 97)
        self.assertEqual(mark("()"), 40 + 2 * 41)
        self.assertEqual(mark("\t\n"), 9 + 2 * 10)

    def test_beyond_the_modulus(self):
        # n times the sign 64 adds up to 64 * (1 + 2 + .. + n).
        self.assertEqual(mark("@" * 176), 996864)
        self.assertEqual(mark("@" * 177), 996864 + 64 * 177 - 1000003)
        self.assertEqual(mark("~" * 2000), 126 * 2000 * 2001 // 2 % 1000003)

    def test_just_at_the_modulus(self):
        # 140 times the sign 100 makes 987000, the 92 at place 141 makes 999972 of it, the e at place 11 adds
        # 11 more, and the first sign the rest.
        rest = "d" * 9 + "e" + "d" * 129 + "\\"
        self.assertEqual(len(rest), 140)
        self.assertEqual(mark("w" + rest), 1000002)
        self.assertEqual(mark("x" + rest), 0)
        self.assertEqual(mark("y" + rest), 1)


class WritingTest(unittest.TestCase):
    def test_a_line(self):
        self.assertEqual(line(()), "() 122\n")
        text = "(7 -12 3:a b () (0:))"
        total = sum((place + 1) * ord(sign) for place, sign in enumerate(text))
        self.assertLess(total, 1000003)
        self.assertEqual(line((7, -12, "a b", (), ("",))), text + " " + str(total) + "\n")

    def test_rows_written(self):
        self.assertEqual(written([()]), "() 122\n")
        self.assertEqual(written([(), ()]), "() 122\n() 122\n")
        self.assertEqual(written(ROWS), "".join(line(row) for row in ROWS))

    def test_no_rows(self):
        self.assertEqual(written([]), "")

    def test_rows_handed_in_stay(self):
        rows = list(ROWS)
        written(rows)
        self.assertEqual(rows, ROWS)

    def test_a_row_beyond_the_bounds_is_not_refused(self):
        row = ("x" * 2001, 10 ** 400)
        self.assertEqual(line(row), marked(shown(row)))
        self.assertEqual(written([row]), marked(shown(row)))


class TellingTest(unittest.TestCase):
    def test_nothing(self):
        self.assertEqual(rows_of(""), [])

    def test_what_was_written(self):
        self.assertEqual(rows_of(written(ROWS)), ROWS)
        for row in ROWS:
            self.assertEqual(rows_of(line(row)), [row])
        self.assertEqual(rows_of(written(ROWS * 100)), ROWS * 100)

    def test_a_row_of_the_longest_text(self):
        row = ("a" * 2000,) * 49 + ("b" * 1699,)
        self.assertEqual(len(shown(row)), 100000)
        self.assertEqual(rows_of(written([row, ()])), [row, ()])

    def test_rows_beyond_the_bounds_end_the_telling(self):
        longer = ("a" * 2000,) * 49 + ("b" * 1700,)
        deeper = ((((((((((),),),),),),),),),)
        for row in (longer, deeper, (10 ** 400,), ("x" * 2001,), (0,) * 2001):
            self.assertEqual(rows_of(written([(), row, ()])), [()])

    def test_cut_at_every_sign(self):
        text = written(ROWS)
        for place in range(len(text) + 1):
            self.assertEqual(rows_of(text[:place]), ahead_of(ROWS, place))

    def test_one_sign_changed_at_every_place(self):
        text = written(ROWS)
        for place in range(len(text)):
            kept = ahead_of(ROWS, place)
            for sign in SIGNS:
                if sign != text[place]:
                    changed = text[:place] + sign + text[place + 1:]
                    self.assertEqual(rows_of(changed), kept, changed)

    def test_two_unlike_neighbours_turned_about(self):
        text = written(ROWS)
        for place in range(len(text) - 1):
            pair = text[place:place + 2]
            if pair[0] != pair[1]:
                changed = text[:place] + pair[1] + pair[0] + text[place + 2:]
                self.assertEqual(rows_of(changed), ahead_of(ROWS, place), changed)

    def test_a_change_far_behind_in_a_long_row(self):
        row = ("a" * 2000,) * 49
        text = written([(), row])
        for place in (10, 1000, 50000, len(text) - 20):
            for sign in ("b", "~", " ", "\n", "\t"):
                self.assertEqual(rows_of(text[:place] + sign + text[place + 1:]), [()])

    def test_lines_that_are_no_rows(self):
        for text in ("7", "-12", "0", "3:a b", "0:", "", " ", "(", "(1", "( )", "(01)", "(1  2)", "() ()", "()\t"):
            for told in (marked(text), marked(text) + line(()), line(()) + marked(text) + line(())):
                self.assertEqual(rows_of(told), [()] if told.startswith("() 122\n") else [])

    def test_lines_not_just_so(self):
        wrong = ["() 123\n", "() 0122\n", "() -122\n", "() +122\n", "()  122\n", "() 122 \n", " () 122\n", "()122\n",
                 "()\t122\n", "() 122\t\n", "() 1000125\n", "() \n", "()\n", "\n", "122\n", " 122\n", "() 122 122\n",
                 "() 122\r\n", "0\n", " 0\n"]
        for text in wrong:
            self.assertEqual(rows_of(text), [], repr(text))
            self.assertEqual(rows_of("() 122\n" + text + "() 122\n"), [()], repr(text))

    def test_no_line_end_at_the_end(self):
        self.assertEqual(rows_of("() 122"), [])
        self.assertEqual(rows_of("() 122\n() 122"), [()])

    def test_rows_behind_a_wrong_line_are_not_told(self):
        self.assertEqual(rows_of("x\n" + written(ROWS)), [])
        self.assertEqual(rows_of("\n" + written(ROWS)), [])
        self.assertEqual(rows_of(written(ROWS) + "x\n" + written(ROWS)), ROWS)

    def test_other_line_ends_part_no_lines(self):
        for sign in ("\r", "\x0b", "\x0c", "\x1c", "\x85", "\u2028"):
            self.assertEqual(rows_of("() 122" + sign + "() 122\n"), [])

    def test_a_list_told_is_the_askers_own(self):
        text = written(ROWS)
        told = rows_of(text)
        told.append(("more",))
        told[0] = ()
        self.assertEqual(rows_of(text), ROWS)
        empty = rows_of("")
        empty.append(())
        self.assertEqual(rows_of(""), [])


if __name__ == "__main__":
    unittest.main()
