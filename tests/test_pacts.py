import itertools
import unittest

from pactroom.errors import NoPlace, NoText, NoWayBack, PactError
from pactroom.pacts import Pact, houses_of, look, read_pact, turning
from pactroom.steps import AddStep, GiveStep, NeedStep, PlusStep, Step, SumStep, TakeStep

EXAMPLE = "held take 0 1; plus -5; need 0; give 1 2"
MOST = "9" * 40
BEYOND = "1" + "0" * 40


def pact_of(manner, *parts):
    return read_pact(manner + " " + "; ".join(parts))


class ReadingTest(unittest.TestCase):
    def check(self, text, manner, many):
        pact = read_pact(text)
        self.assertIsInstance(pact, Pact)
        self.assertEqual(pact.manner, manner)
        self.assertIsInstance(pact.steps, list)
        self.assertEqual(len(pact.steps), many)
        self.assertTrue(all(isinstance(step, Step) for step in pact.steps))
        self.assertEqual(pact.spelled(), text)

    def test_the_text_of_the_document(self):
        self.check(EXAMPLE, "held", 4)
        pact = read_pact(EXAMPLE)
        self.assertEqual([step.spelled() for step in pact.steps], ["take 0 1", "plus -5", "need 0", "give 1 2"])
        self.assertEqual([step.__class__ for step in pact.steps], [TakeStep, PlusStep, NeedStep, GiveStep])

    def test_one_step_of_each_sort_in_both_manners(self):
        for manner in ("held", "walked"):
            for part in ("take 0 1", "mean 4 0", "sum 2 1 3", "give 3 7", "add 1 2 -5", "plus 12", "need 0"):
                self.check(manner + " " + part, manner, 1)

    def test_one_to_twelve_steps(self):
        for manner in ("held", "walked"):
            for many in range(1, 13):
                self.check(manner + " " + "; ".join(["plus %d" % k for k in range(many)]), manner, many)

    def test_all_words_at_once(self):
        self.check("walked take 0 1; mean 4 0; sum 2 1 3; give 3 7; add 1 2 -5; plus 12; need 0; plus 0; take 0 1; "
                   "take 0 1; sum 0 0 0; add 0 0 0", "walked", 12)

    def test_numbers_of_40_figures(self):
        self.check("held take %s 0; add 0 %s -%s; need %s" % (MOST, MOST, MOST, MOST), "held", 3)

    def test_made_by_its_class(self):
        steps = [TakeStep(0, 1), AddStep(1, 2, -3)]
        pact = Pact("walked", steps)
        self.assertEqual((pact.manner, pact.steps), ("walked", steps))
        self.assertEqual(pact.spelled(), "walked take 0 1; add 1 2 -3")
        self.assertEqual(Pact(manner="held", steps=[PlusStep(1)]).spelled(), "held plus 1")
        self.assertEqual(read_pact(text="held plus 1").spelled(), "held plus 1")

    def test_made_somewhat_beyond_the_bounds(self):
        self.assertEqual(Pact("held", [PlusStep(int(BEYOND))] * 13).spelled(),
                         "held " + "; ".join(["plus " + BEYOND] * 13))


class RefusedTest(unittest.TestCase):
    def refused(self, at, *texts):
        for text in texts:
            with self.assertRaises(NoText, msg=repr(text[:80])) as caught:
                read_pact(text)
            self.assertEqual(caught.exception.at, at, repr(text[:80]))
            self.assertIsInstance(caught.exception, PactError)

    def test_no_manner(self):
        self.refused(-1, "", " ", "  ", "\n", "; ", "take 0 1", "take 0 1; plus 1", " take 0 1", "plus 1", "0", "none")

    def test_half_a_manner(self):
        self.refused(-1, "h", "hel", "hel plus 1", "eld plus 1", "walk plus 1", "walke plus 1", "alked plus 1",
                     "heldd plus 1", "walkeds plus 1", "heldwalked plus 1", "held; plus 1", "held: plus 1")

    def test_another_manner(self):
        self.refused(-1, "lead plus 1", "done plus 1", "plus 1 held", "4:held plus 1", '"held" plus 1')

    def test_a_manner_with_a_great_letter(self):
        self.refused(-1, "Held plus 1", "HELD plus 1", "helD plus 1", "Walked plus 1", "WALKED plus 1", "walkeD plus 1")

    def test_a_manner_without_a_blank(self):
        self.refused(-1, "held", "walked", "heldplus 1", "walkedplus 1", "heldtake 0 1", "held\tplus 1",
                     "held\nplus 1", "walked\tplus 1", "held;plus 1", "held\u00a0plus 1")

    def test_a_manner_with_a_blank_ahead(self):
        self.refused(-1, " held plus 1", " walked plus 1", "\theld plus 1", "; held plus 1")

    def test_a_manner_with_two_blanks(self):
        self.refused(0, "held  plus 1", "walked  plus 1", "held  take 0 1; plus 1", "held   ", "held  ")

    def test_two_manners(self):
        self.refused(0, "held held plus 1", "walked held plus 1", "held walked")
        self.refused(1, "held plus 1; held plus 1", "walked plus 1; walked plus 1")

    def test_a_manner_and_nothing_behind(self):
        self.refused(0, "held ", "walked ")

    def test_thirteen_steps(self):
        for manner in ("held ", "walked "):
            self.refused(-1, manner + "; ".join(["plus 1"] * 13), manner + "; ".join(["plus 1"] * 14),
                         manner + "; ".join(["take 0 1"] * 1000))

    def test_a_part_that_is_no_step_among_more_than_twelve(self):
        for at in (0, 1, 6, 11, 12):
            parts = ["plus 1"] * 13
            parts[at] = "minus 1"
            self.refused(-1, "held " + "; ".join(parts), "walked " + "; ".join(parts))
        self.refused(-1, "held " + "; " * 12, "held " + "; " * 20, "held " + "; ".join(["plus 1"] * 12) + "; ")

    def test_a_part_that_is_no_step_among_twelve(self):
        for at in range(12):
            for wrong in ("minus 1", "plus", "", "plus 01", "held", "take 0", "sum 0 2 1"):
                parts = ["plus 1"] * 12
                parts[at] = wrong
                self.refused(at, "held " + "; ".join(parts), "walked " + "; ".join(parts))

    def test_two_parts_that_are_no_steps(self):
        for one, other in itertools.combinations(range(12), 2):
            parts = ["take 0 1"] * 12
            parts[one] = "take 0"
            parts[other] = "Take 0 1"
            self.refused(one, "held " + "; ".join(parts), "walked " + "; ".join(parts))

    def test_no_manner_goes_ahead_of_a_part_that_is_no_step(self):
        self.refused(-1, "Held minus 1", "plus 1; minus 1", "heldplus 1; minus 1")

    def test_a_blank_too_many(self):
        self.refused(1, "held plus 1;  plus 2", "held plus 1;  plus 2; plus 3", "held plus 1;   plus 2")
        self.refused(0, "held plus 1 ; plus 2", "held plus  1; plus 2", "held plus 1 ;plus 2", "held plus 1 ")
        self.refused(2, "held plus 1; plus 2;  plus 3", "held plus 1; plus 2; plus 3 ", "held plus 1; plus 2;  ")

    def test_a_blank_too_few(self):
        self.refused(0, "held plus 1;plus 2", "held plus 1;plus 2; plus 3", "held take 0 1;give 0 1")
        self.refused(1, "held plus 1; plus 2;plus 3", "held plus 1; plus2")

    def test_other_signs_between(self):
        self.refused(0, "held plus 1, plus 2", "held plus 1: plus 2", "held plus 1\nplus 2", "held plus 1;\nplus 2",
                     "held plus 1;\tplus 2", "held plus 1 plus 2", "held plus 1;; plus 2", "held plus 1\n")
        self.refused(1, "held plus 1; plus 2\n", "held plus 1; \nplus 2", "held plus 1; ;plus 2")

    def test_a_semicolon_at_the_end_or_ahead(self):
        self.refused(0, "held plus 1;", "held ;", "held ;plus 1", "held ; plus 1", "held ;; plus 1")
        self.refused(1, "held plus 1; ", "held plus 1; plus 2;", "held plus 1; ;")
        self.refused(2, "walked plus 1; plus 2; ")
        self.refused(11, "held " + "; ".join(["plus 1"] * 12) + ";", "held " + "; ".join(["plus 1"] * 11) + "; ")

    def test_an_empty_part(self):
        self.refused(0, "held ; plus 2", "held ; ", "held ; ; ")
        self.refused(1, "held plus 1; ; plus 2", "held plus 1; ; ", "held plus 1; ; ; plus 2")

    def test_numbers_of_41_figures(self):
        self.refused(0, "held plus " + BEYOND, "held plus -" + BEYOND, "walked take 0 " + BEYOND)
        self.refused(1, "held plus 1; need " + BEYOND, "walked plus " + MOST + "; add 0 0 " + BEYOND)
        self.refused(2, "held plus 1; plus 1; take %s 0; need 1" % BEYOND)

    def test_every_text_one_sign_away_is_refused_or_another_pact(self):
        for text in (EXAMPLE, "walked sum 0 1 2; give 1 0; add 2 7 -12"):
            for k in range(len(text)):
                for sign in ("", " ", ";", "0", "-", "a", text[k] * 2):
                    changed = text[:k] + sign + text[k + 1:]
                    try:
                        pact = read_pact(changed)
                    except NoText:
                        continue
                    self.assertEqual(pact.spelled(), changed)


class HousesTest(unittest.TestCase):
    def houses(self, *parts):
        told = [houses_of(pact_of(manner, *parts)) for manner in ("held", "walked")]
        self.assertEqual(told[0], told[1])
        self.assertIsInstance(told[0], tuple)
        return told[0]

    def test_no_house(self):
        self.assertEqual(self.houses("plus 1", "need 0", "plus -1"), ())
        self.assertEqual(self.houses("need 0"), ())

    def test_each_sort_of_step_has_its_house(self):
        self.assertEqual(self.houses("take 3 1"), (3,))
        self.assertEqual(self.houses("mean 3 1"), (3,))
        self.assertEqual(self.houses("sum 3 1 2"), (3,))
        self.assertEqual(self.houses("give 3 1"), (3,))
        self.assertEqual(self.houses("add 3 1 2"), (3,))
        self.assertEqual(self.houses("take 0 0"), (0,))

    def test_rising_and_each_once_whatever_the_order(self):
        for order in itertools.permutations(("take 0 1", "add 10 0 1", "give 9 2", "sum 0 0 3", "plus 7")):
            self.assertEqual(self.houses(*order), (0, 9, 10))
        # A set of these would not be walked rising.
        for order in itertools.permutations(("take 1 0", "take 8 0", "take 16 0", "take 3 0")):
            self.assertEqual(self.houses(*order), (1, 3, 8, 16))

    def test_each_once(self):
        self.assertEqual(self.houses(*["take 2 0"] * 12), (2,))
        self.assertEqual(self.houses("take 2 0", "take 1 0", "take 2 0", "take 1 0"), (1, 2))


class TurningTest(unittest.TestCase):
    def turnings(self, *parts):
        told = [turning(pact_of(manner, *parts)) for manner in ("held", "walked")]
        self.assertEqual(told[0], told[1])
        return told[0]

    def test_no_give(self):
        self.assertEqual(self.turnings("take 0 0"), 1)
        self.assertEqual(self.turnings("take 0 0", "mean 0 0", "sum 0 0 0", "add 0 0 1", "plus 1", "need 0"), 6)
        self.assertEqual(self.turnings(*["plus 1"] * 12), 12)

    def test_the_first_step_a_give(self):
        self.assertEqual(self.turnings("give 0 0"), 0)
        self.assertEqual(self.turnings("give 0 0", "take 0 0", "give 0 0"), 0)

    def test_several_gives(self):
        self.assertEqual(self.turnings("take 0 0", "plus 1", "give 0 0", "give 1 0", "take 0 0", "give 2 0"), 2)

    def test_every_place(self):
        for k in range(12):
            parts = ["plus 1"] * 12
            parts[k] = "give 0 0"
            self.assertEqual(self.turnings(*parts), k)


class LookingTest(unittest.TestCase):
    def refused(self, kind, at, pact, sizes):
        with self.assertRaises(kind) as caught:
            look(pact, sizes)
        self.assertEqual(caught.exception.at, at)
        self.assertIsInstance(caught.exception, PactError)

    def test_what_fits_is_told_by_none(self):
        self.assertIs(look(read_pact(EXAMPLE), [2, 3]), None)
        self.assertIs(look(pact=read_pact(EXAMPLE), sizes=[8, 8, 8]), None)
        self.assertIs(look(read_pact("walked take 0 0; add 0 0 1; need 1; give 0 0; plus 1; give 0 0"), [1]), None)
        self.assertIs(look(read_pact("held sum 0 0 7; sum 4 7 7"), [8, 1, 1, 1, 8]), None)

    def test_steps_at_no_house_fit_everywhere(self):
        for manner in ("held", "walked"):
            self.assertIs(look(read_pact(manner + " plus 100; need 100; plus " + MOST), [1]), None)
            self.assertIs(look(read_pact(manner + " plus 100; need 100; plus " + MOST), []), None)

    def test_a_house_just_beyond_the_last_one(self):
        for manner in ("held", "walked"):
            for part in ("take 2 0", "mean 2 0", "sum 2 0 0", "give 2 0", "add 2 0 1"):
                self.assertIs(look(pact_of(manner, part), [1, 1, 1]), None)
                self.refused(NoPlace, 0, pact_of(manner, part), [1, 1])
                self.refused(NoPlace, 3, pact_of(manner, "plus 1", "take 0 0", "take 1 0", part), [1, 1])
                self.refused(NoPlace, 0, pact_of(manner, part), [])
        self.refused(NoPlace, 0, pact_of("held", "take " + MOST + " 0"), [8, 8, 8, 8, 8])

    def test_a_cell_just_beyond_the_last_one(self):
        for manner in ("held", "walked"):
            for part in ("take 1 3", "mean 1 3", "give 1 3", "add 1 3 1"):
                self.assertIs(look(pact_of(manner, part), [1, 4]), None)
                self.refused(NoPlace, 0, pact_of(manner, part), [9, 3])
                self.refused(NoPlace, 3, pact_of(manner, "take 1 2", "plus 1", "take 0 8", part), [9, 3])

    def test_the_last_cell_of_a_sum(self):
        for manner in ("held", "walked"):
            for part in ("sum 1 0 3", "sum 1 2 3", "sum 1 3 3"):
                self.assertIs(look(pact_of(manner, part), [1, 4]), None)
                self.refused(NoPlace, 0, pact_of(manner, part), [9, 3])
                self.refused(NoPlace, 2, pact_of(manner, "sum 1 0 2", "take 1 2", part), [9, 3])

    def test_each_house_has_its_own_size(self):
        pact = read_pact("held take 0 1; take 1 2; take 2 0")
        self.assertIs(look(pact, [2, 3, 1]), None)
        self.refused(NoPlace, 0, pact, [1, 3, 1])
        self.refused(NoPlace, 1, pact, [2, 2, 1])
        self.refused(NoPlace, 2, pact, [2, 3, 0])

    def test_the_first_of_several(self):
        self.refused(NoPlace, 1, read_pact("held plus 1; take 0 8; take 9 0; take 0 9"), [8])
        self.refused(NoPlace, 1, read_pact("held plus 1; take 9 0; take 0 8; take 0 0"), [8])

    def test_a_need_behind_the_turning(self):
        self.refused(NoWayBack, 1, read_pact("walked give 0 0; need 0"), [1])
        self.refused(NoWayBack, 4, read_pact("walked need 0; give 0 0; plus 1; give 0 0; need 1; need 0"), [1])
        self.refused(NoWayBack, 11, pact_of("walked", *["give 0 0"] * 11, "need 0"), [1])
        self.assertIs(look(read_pact("held give 0 0; need 0"), [1]), None)
        self.assertIs(look(read_pact("held need 0; give 0 0; plus 1; give 0 0; need 1; need 0"), [1]), None)

    def test_a_need_ahead_of_the_turning(self):
        self.assertIs(look(read_pact("walked need 0; give 0 0"), [1]), None)
        self.assertIs(look(read_pact("walked take 0 0; need 7; need 8; give 0 0; give 0 0"), [1]), None)
        self.assertIs(look(read_pact("walked take 0 0; need 7; add 0 0 1; need 8"), [1]), None)

    def test_a_place_that_is_not_there_goes_ahead_of_a_need(self):
        for text, at in (("walked give 0 0; need 0; take 0 1", 2), ("walked give 0 0; take 0 1; need 0", 1),
                         ("walked give 0 1; need 0", 0), ("walked take 1 0; give 0 0; need 0", 0)):
            self.refused(NoPlace, at, read_pact(text), [1])

    def test_other_kinds_of_step_behind_the_turning(self):
        text = "walked give 0 0; take 0 0; mean 0 0; sum 0 0 0; add 0 0 1; plus 1; give 0 0"
        self.assertIs(look(read_pact(text), [1]), None)


class AskersOwnTest(unittest.TestCase):
    def test_the_list_handed_in_is_not_changed_and_not_kept(self):
        steps = [TakeStep(0, 1), GiveStep(1, 2)]
        pact = Pact("walked", steps)
        other = Pact("walked", steps)
        self.assertEqual(len(steps), 2)
        steps.insert(0, NeedStep(3))
        steps.append(SumStep(7, 0, 1))
        for each in (pact, other):
            self.assertEqual(each.spelled(), "walked take 0 1; give 1 2")
            self.assertEqual(len(each.steps), 2)
            self.assertEqual((houses_of(each), turning(each)), ((0, 1), 1))

    def test_the_list_told_may_be_changed(self):
        pact = read_pact("walked take 0 1; give 1 2")
        pact.steps.clear()
        self.assertEqual(pact.spelled(), "walked take 0 1; give 1 2")
        self.assertEqual((houses_of(pact), turning(pact)), ((0, 1), 1))
        with self.assertRaises(NoPlace):
            look(pact, [1])

    def test_two_pacts_know_nothing_of_one_another(self):
        one = read_pact(EXAMPLE)
        other = read_pact(EXAMPLE)
        one.steps.append(PlusStep(1))
        one.manner = "walked"
        self.assertEqual(other.spelled(), EXAMPLE)
        self.assertEqual(len(other.steps), 4)

    def test_sizes_are_not_changed(self):
        sizes = [2, 3]
        look(read_pact(EXAMPLE), sizes)
        self.assertEqual(sizes, [2, 3])


if __name__ == "__main__":
    unittest.main()
