import itertools
import unittest

from pactroom.errors import NoNeed, NoText, PactError
from pactroom.steps import (AddStep, GiveStep, MeanStep, NeedStep, PlusStep, Step, SumStep, TakeStep,
                            read_step)

MOST = "9" * 40
LEAST = "1" + "0" * 39
BEYOND = "1" + "0" * 40

# Each step made by its class, with its text, its house and its lock.
STEPS = [
    (TakeStep(0, 1), TakeStep, "take 0 1", 0, ("read", 1, 1)),
    (MeanStep(4, 0), MeanStep, "mean 4 0", 4, ("mean", 0, 0)),
    (SumStep(2, 1, 3), SumStep, "sum 2 1 3", 2, ("read", 1, 3)),
    (SumStep(2, 3, 3), SumStep, "sum 2 3 3", 2, ("read", 3, 3)),
    (GiveStep(3, 7), GiveStep, "give 3 7", 3, ("change", 7, 7)),
    (AddStep(1, 2, 5), AddStep, "add 1 2 5", 1, ("change", 2, 2)),
    (AddStep(1, 2, -5), AddStep, "add 1 2 -5", 1, ("change", 2, 2)),
    (AddStep(0, 0, 0), AddStep, "add 0 0 0", 0, ("change", 0, 0)),
    (PlusStep(12), PlusStep, "plus 12", None, None),
    (PlusStep(-12), PlusStep, "plus -12", None, None),
    (PlusStep(0), PlusStep, "plus 0", None, None),
    (NeedStep(0), NeedStep, "need 0", None, None),
    (NeedStep(-1), NeedStep, "need -1", None, None),
]


class Values:
    """Tells the values of cells and notes which were asked for."""

    def __init__(self, values):
        self.values = values
        self.asked = []

    def value_of(self, cell):
        self.asked.append(cell)
        return self.values[cell]


def done(text, hand, values=()):
    return read_step(text).step_done(hand, Values(values).value_of)


def undone(text, values=()):
    return read_step(text).back(Values(values).value_of)


class TellingTest(unittest.TestCase):
    def check(self, step, kind, text, house, lock):
        self.assertIsInstance(step, Step)
        self.assertIsInstance(step, kind)
        self.assertEqual(step.spelled(), text)
        self.assertEqual(step.house(), house)
        self.assertEqual(step.lock(), lock)
        self.assertIs(step.sure(), kind == GiveStep)

    def test_made_by_class(self):
        for step, kind, text, house, lock in STEPS:
            self.check(step, kind, text, house, lock)

    def test_read(self):
        for step, kind, text, house, lock in STEPS:
            self.check(read_step(text), kind, text, house, lock)

    def test_made_by_the_names_of_the_arguments(self):
        self.assertEqual(TakeStep(where=1, cell=2).spelled(), "take 1 2")
        self.assertEqual(MeanStep(where=1, cell=2).spelled(), "mean 1 2")
        self.assertEqual(SumStep(where=1, low=2, high=3).spelled(), "sum 1 2 3")
        self.assertEqual(GiveStep(where=1, cell=2).spelled(), "give 1 2")
        self.assertEqual(AddStep(where=1, cell=2, amount=3).spelled(), "add 1 2 3")
        self.assertEqual(PlusStep(amount=3).spelled(), "plus 3")
        self.assertEqual(NeedStep(amount=3).spelled(), "need 3")
        self.assertEqual(read_step(text="need 3").spelled(), "need 3")
        self.assertIsInstance(Step(), Step)

    def test_every_word_with_every_small_number(self):
        for h, a, b in itertools.product((0, 1, 10), (0, 2, 9), (-10, -1, 0, 2, 90)):
            texts = ["take %d %d" % (h, a), "mean %d %d" % (h, a), "give %d %d" % (h, a),
                     "add %d %d %d" % (h, a, b), "plus %d" % b, "need %d" % b]
            if a <= b:
                texts.append("sum %d %d %d" % (h, a, b))
            for text in texts:
                self.assertEqual(read_step(text).spelled(), text)

    def test_numbers_of_40_figures(self):
        for figures in (MOST, LEAST):
            for text in ("take %s 0", "take 0 %s", "mean %s 0", "mean 0 %s", "sum %s 0 1", "sum 0 0 %s",
                         "give %s 0", "give 0 %s", "add %s 0 1", "add 0 %s 1", "add 0 0 %s", "add 0 0 -%s",
                         "plus %s", "plus -%s", "need %s", "need -%s"):
                self.assertEqual(read_step(text % figures).spelled(), text % figures)
        self.assertEqual(read_step("sum 0 " + MOST + " " + MOST).lock(), ("read", int(MOST), int(MOST)))
        self.assertEqual(read_step("take " + MOST + " 0").house(), int(MOST))

    def test_made_somewhat_beyond_the_bound(self):
        self.assertEqual(PlusStep(int(BEYOND)).spelled(), "plus " + BEYOND)
        self.assertEqual(AddStep(0, int(BEYOND), 1).lock(), ("change", int(BEYOND), int(BEYOND)))


class RefusedTest(unittest.TestCase):
    def refused(self, *texts):
        for text in texts:
            with self.assertRaises(NoText, msg=repr(text[:80])) as caught:
                read_step(text)
            self.assertEqual(caught.exception.at, 0)
            self.assertIsInstance(caught.exception, PactError)

    def test_texts_without_a_word(self):
        self.refused("", " ", "  ", "\t", "\n", "0", "0 1", "7 take 0", ";", "held take 0 1", "held", "walked plus 1")

    def test_a_word_alone(self):
        for word in ("take", "mean", "sum", "give", "add", "plus", "need"):
            self.refused(word, word + " ", " " + word)

    def test_words_that_are_none(self):
        self.refused("Take 0 1", "TAKE 0 1", "takes 0 1", "tak 0 1", "read 0 1", "change 0 1", "set 0 1", "less 1",
                     "Plus 1", "pluS 1", "Need 1", "Sum 0 1 2", "Add 0 1 2", "Give 0 1", "Mean 0 1", "take0 1",
                     "4:take 0 1", "(take 0 1)")

    def test_numbers_too_few_and_too_many(self):
        self.refused("take 0", "mean 0", "give 0", "sum 0", "sum 0 1", "add 0", "add 0 1")
        self.refused("take 0 1 2", "mean 0 1 2", "give 0 1 2", "sum 0 1 2 3", "add 0 1 2 3", "plus 1 2", "need 1 2")
        self.refused("take" + " 0" * 100000)

    def test_41_figures(self):
        for figures in (BEYOND, "9" * 41, "9" * 400, "9" * 401, "9" * 5000):
            self.refused("take " + figures + " 0", "take 0 " + figures, "mean " + figures + " 0",
                         "mean 0 " + figures, "give " + figures + " 0", "give 0 " + figures,
                         "sum " + figures + " 0 1", "sum 0 0 " + figures, "sum 0 " + figures + " " + figures,
                         "add " + figures + " 0 1", "add 0 " + figures + " 1", "add 0 0 " + figures,
                         "add 0 0 -" + figures, "plus " + figures, "plus -" + figures, "need " + figures,
                         "need -" + figures)

    def test_noughts_ahead(self):
        for figures in ("00", "01", "-0", "-01", "-00", "0" * 40, "0" + "9" * 39):
            self.refused("take " + figures + " 0", "take 0 " + figures, "mean " + figures + " 0",
                         "mean 0 " + figures, "give " + figures + " 0", "give 0 " + figures,
                         "sum " + figures + " 0 1", "sum 0 " + figures + " 7", "sum 0 0 " + figures,
                         "add " + figures + " 0 1", "add 0 " + figures + " 1", "add 0 0 " + figures,
                         "plus " + figures, "need " + figures)

    def test_a_house_or_a_cell_below_0(self):
        self.refused("take -1 0", "take 0 -1", "mean -1 0", "mean 0 -1", "give -1 0", "give 0 -1", "sum -1 0 1",
                     "sum 0 -1 1", "sum 0 -2 -1", "sum 0 0 -1", "add -1 0 1", "add 0 -1 1", "take -" + MOST + " 0")

    def test_a_sum_whose_cells_fall(self):
        self.refused("sum 0 1 0", "sum 0 5 4", "sum 0 10 9", "sum 0 " + MOST + " " + MOST[:-1] + "8")

    def test_blanks(self):
        for text in ("take 0 1", "mean 0 1", "sum 0 1 2", "give 0 1", "add 0 1 2", "plus 1", "need 1"):
            self.refused(" " + text, text + " ", "  " + text, text + "  ")
            for place, sign in enumerate(text):
                if sign == " ":
                    self.refused(text[:place] + text[place + 1:])
                    for other in ("  ", "\t", "\n", "\r", "\u00a0", "\t ", " \t", ",", "; "):
                        self.refused(text[:place] + other + text[place + 1:])

    def test_ends(self):
        for text in ("take 0 1", "sum 0 1 2", "add 0 1 2", "plus 1"):
            for sign in ("\t", "\n", "\r", ";", "; ", ".", "\x00", "\x25", "a"):
                self.refused(text + sign, sign + text)

    def test_numbers_that_are_none(self):
        for word in ("a", "-", "--1", "+1", "1.0", "1_0", "0x1", "1e1", "1-", "()", "(1)", "1:1", "0:", "1:a", ":",
                     "\u0661", "\u00b2", "\uff11", "C", "V", "None", "True"):
            self.refused("take " + word + " 0", "take 0 " + word, "mean 0 " + word, "give 0 " + word,
                         "sum " + word + " 0 1", "sum 0 " + word + " 1", "sum 0 0 " + word, "add " + word + " 0 1",
                         "add 0 " + word + " 1", "add 0 0 " + word, "plus " + word, "need " + word)

    def test_texts_and_tuples_with_blanks_in_them(self):
        self.refused("plus 3:a b", "plus (1 2)", "take (1 2)", "need 1: ", "add 0 0 3:1 2")

    def test_two_steps(self):
        self.refused("take 0 1; plus 1", "plus 1;", "plus 1; ", "plus 1;plus 1")

    def test_every_text_read_is_the_steps_own(self):
        read = 0
        for head in ("take", "sum", "add", "plus"):
            for length in range(8):
                for signs in itertools.product(" 01-", repeat=length):
                    text = head + "".join(signs)
                    try:
                        step = read_step(text)
                    except NoText as refusal:
                        self.assertEqual(refusal.at, 0)
                        continue
                    read += 1
                    self.assertEqual(step.spelled(), text)
        self.assertGreater(read, 100)


class DoneTest(unittest.TestCase):
    VALUES = (7, -3, 10 ** 300, 0, 5)

    def check(self, text, hand, hand_behind, changes):
        told = done(text, hand, self.VALUES)
        self.assertIsInstance(told, tuple)
        self.assertEqual(told, (hand_behind, changes))
        self.assertIsInstance(told[1], tuple)

    def test_take_and_mean(self):
        for word in ("take", "mean"):
            for cell, value in enumerate(self.VALUES):
                for hand in (0, 9, -9):
                    self.check("%s 3 %d" % (word, cell), hand, value, ())

    def test_sum(self):
        self.check("sum 0 0 1", 9, 4, ())
        self.check("sum 0 1 2", 9, 10 ** 300 - 3, ())
        self.check("sum 0 0 4", -9, 10 ** 300 + 9, ())
        self.check("sum 0 3 4", 0, 5, ())
        for cell, value in enumerate(self.VALUES):
            self.check("sum 0 %d %d" % (cell, cell), 9, value, ())

    def test_give(self):
        self.check("give 0 1", 9, 9, ((1, 9),))
        self.check("give 0 4", -10 ** 350, -10 ** 350, ((4, -10 ** 350),))
        # Also where the value is the hand already.
        self.check("give 0 0", 7, 7, ((0, 7),))
        self.check("give 0 3", 0, 0, ((3, 0),))

    def test_add(self):
        self.check("add 0 0 5", 9, 9, ((0, 12),))
        self.check("add 0 1 -5", 9, 9, ((1, -8),))
        self.check("add 0 2 1", -1, -1, ((2, 10 ** 300 + 1),))
        self.check("add 0 0 0", 9, 9, ((0, 7),))
        self.check("add 0 3 -" + MOST, 0, 0, ((3, -int(MOST)),))

    def test_plus(self):
        self.check("plus 5", 9, 14, ())
        self.check("plus -10", 9, -1, ())
        self.check("plus 0", 9, 9, ())
        self.check("plus -1", 10 ** 300, 10 ** 300 - 1, ())

    def test_need_just_met_and_just_not(self):
        for amount in (0, 1, -1, 5, -5, int(MOST), -int(MOST)):
            text = "need %d" % amount
            self.check(text, amount, amount, ())
            self.check(text, amount + 1, amount + 1, ())
            self.check(text, 10 ** 300, 10 ** 300, ())
            for hand in (amount - 1, -10 ** 300):
                with self.assertRaises(NoNeed) as caught:
                    done(text, hand, self.VALUES)
                self.assertIsInstance(caught.exception, PactError)

    def test_the_cells_asked_for_are_those_of_the_lock(self):
        for text, cells in (("take 0 2", {2}), ("mean 0 2", {2}), ("sum 0 1 3", {1, 2, 3}), ("sum 0 2 2", {2}),
                            ("add 0 2 5", {2})):
            values = Values(self.VALUES)
            read_step(text).step_done(9, values.value_of)
            self.assertEqual(set(values.asked), cells, text)

    def test_others_ask_for_none_beyond_the_lock(self):
        for text, cells in (("give 0 2", {2}), ("plus 1", set()), ("need 1", set())):
            values = Values(self.VALUES)
            read_step(text).step_done(9, values.value_of)
            self.assertLessEqual(set(values.asked), cells, text)

    def test_done_twice_a_step_does_the_same(self):
        for step, kind, text, house, lock in STEPS:
            values = list(range(10))
            first = step.step_done(20, Values(values).value_of)
            self.assertEqual(step.step_done(20, Values(values).value_of), first, text)
            self.assertEqual(values, list(range(10)))
            self.assertEqual(step.spelled(), text)


class UndoneTest(unittest.TestCase):
    VALUES = (7, -3, 10 ** 300, 0, 5)

    def check(self, text, changes):
        told = undone(text, self.VALUES)
        self.assertIsInstance(told, tuple)
        self.assertEqual(told, changes)

    def test_add(self):
        self.check("add 0 0 5", ((0, 2),))
        self.check("add 0 1 -5", ((1, 2),))
        self.check("add 0 2 1", ((2, 10 ** 300 - 1),))
        self.check("add 0 0 0", ((0, 7),))

    def test_others(self):
        for text in ("take 0 1", "mean 0 1", "sum 0 0 4", "give 0 1", "plus 5", "need 100", "need -1"):
            self.check(text, ())

    def test_the_values_that_stand_then_count(self):
        # The cell has grown by 100 between the doing and the undoing.
        changes = done("add 0 0 5", 1, [7])[1]
        self.assertEqual(changes, ((0, 12),))
        self.assertEqual(undone("add 0 0 5", [112]), ((0, 107),))

    def test_the_cells_asked_for(self):
        for step, kind, text, house, lock in STEPS:
            values = Values([0] * 10)
            step.back(values.value_of)
            self.assertEqual(values.asked, [lock[1]] if kind == AddStep else [], text)

    def test_only_a_give_is_sure(self):
        for step, kind, text, house, lock in STEPS:
            self.assertIs(step.sure(), text.startswith("give"), text)


if __name__ == "__main__":
    unittest.main()
