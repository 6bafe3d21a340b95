import itertools
import random
import unittest

from model import Model, ModelSheet
from pactroom.sheets import Sheet
from pactroom.stands import Stand
from pactroom.works import Works

HOME = 2
MANY = 4

# The leaders: 0, 0, 1, the house itself.
P = (0, 0)
Q = (0, 1)
R = (1, 0)
OWN = (HOME, 0)
FAR = (10 ** 39, 10 ** 39)


class Bench:
    """The works of house 2 of four, with a new sheet for each thing that they are told."""

    def __init__(self, cells=(10, 20, 30, 40), rows=(), home=HOME, many=MANY):
        self.stand = Stand(list(cells))
        for row in rows:
            self.stand.keep(row)
        self.works = Works(self.stand, home, many)

    def told(self, name, *parts):
        sheet = Sheet(self.stand)
        getattr(self.works, name)(sheet, *parts)
        return (sheet.rows_told(), [(to,) + letter[:3] for to, letter in sheet.letters_told()])

    def work(self, p, i, hand, text):
        return self.told("work", p, i, hand, text)

    def ready(self, p, houses=(1, 2)):
        return self.told("ready", p, houses)

    def end(self, p, outcome="done"):
        """The end row is written ahead of what the works do."""
        sheet = Sheet(self.stand)
        sheet.row(("end", p, outcome, ()))
        self.works.ended(sheet, p)
        return (sheet.rows_told()[1:], [(to,) + letter[:3] for to, letter in sheet.letters_told()])

    def walk(self, p, i, hand, text):
        return self.told("walk", p, i, hand, text)

    def undo(self, p, i, text):
        return self.told("undo", p, i, text)

    def turn(self):
        return self.told("turn")

    def chase(self, p, path=()):
        return self.told("chase", p, path)

    def locks(self):
        return (self.works.held(), self.works.waiting())


NOTHING = ([], [])


def did(p, i, hand):
    return (p[0], "did", p, (i, hand))


def first(p, i, hand):
    """What a pact's first step done tells."""
    return ([("work", p)], [did(p, i, hand)])


def again(p, i, hand):
    return ([], [did(p, i, hand)])


def yes(p):
    return (p[0], "yes", p, ())


def change(cell):
    return ("change", cell, cell)


def read(low, high):
    return ("read", low, high)


def ready_row(p, locks, draft, houses=(1, 2)):
    return ("ready", p, houses, locks, draft)


class MakingTest(unittest.TestCase):
    def test_arguments_by_their_names(self):
        stand = Stand([1, 2])
        works = Works(stand=stand, home=0, many=2)
        sheet = Sheet(stand)
        for told in (works.work(sheet=sheet, p=R, i=0, hand=5, text="give 0 0"),
                     works.ready(sheet=sheet, p=R, houses=(0,)),
                     works.walk(sheet=sheet, p=Q, i=0, hand=5, text="give 0 1"),
                     works.undo(sheet=sheet, p=Q, i=1, text="take 0 1"),
                     works.turn(sheet=sheet), works.chase(sheet=sheet, p=R, path=()),
                     works.ended(sheet=sheet, p=R)):
            self.assertIs(told, None)
        self.assertEqual(sheet.rows_told(), [("work", R), ("ready", R, (0,), (change(0),), ((0, 5),)),
                                             ("walked", Q, 0, ((1, 5),), 5), ("void", Q, 1)])
        self.assertEqual([letter[0] for to, letter in sheet.letters_told()], ["did", "yes", "went", "undid", "ask"])
        self.assertEqual((works.held(), works.waiting()), ([], []))

    def test_an_empty_book(self):
        bench = Bench()
        self.assertEqual(bench.locks(), ([], []))
        self.assertEqual(bench.turn(), NOTHING)

    def test_two_works_know_nothing_of_one_another(self):
        one, other = Bench(), Bench()
        one.work(P, 0, 5, "give 2 0")
        one.work(Q, 0, 5, "give 2 0")
        self.assertEqual(other.locks(), ([], []))
        self.assertEqual((other.ready(P), other.turn(), other.chase(Q)), (NOTHING, NOTHING, NOTHING))
        # Two works of one stand share the book, and nothing beside it.
        third = Bench()
        third.stand = one.stand
        third.works = Works(one.stand, HOME, MANY)
        self.assertEqual(third.locks(), ([], []))
        self.assertEqual((third.ready(P), third.turn(), third.chase(Q)), (NOTHING, NOTHING, NOTHING))

    def test_lists_told_and_then_changed(self):
        bench = Bench()
        bench.work(P, 0, 5, "give 2 0")
        bench.work(Q, 0, 5, "give 2 0")
        for told in (bench.works.held(), bench.works.waiting()):
            told.clear()
            told.append((FAR, change(3)))
        self.assertEqual(bench.locks(), ([(P, change(0))], [(Q, change(0))]))


class WorkTest(unittest.TestCase):
    def test_a_lock_held_at_once(self):
        for text, hand, lock in (("take 2 1", 20, read(1, 1)), ("mean 2 1", 20, ("mean", 1, 1)),
                                 ("sum 2 1 3", 90, read(1, 3)), ("give 2 1", 7, change(1)),
                                 ("add 2 1 -4", 7, change(1))):
            bench = Bench()
            self.assertEqual(bench.work(P, 3, 7, text), first(P, 3, hand))
            self.assertEqual(bench.locks(), ([(P, lock)], []))
            # What stands is not touched ahead of the end.
            self.assertEqual(bench.stand.cells_told(), [10, 20, 30, 40])

    def test_letters_go_to_the_pacts_leader(self):
        for p in (P, R, OWN, FAR):
            self.assertEqual(Bench().work(p, 0, 7, "take 2 0"), ([("work", p)], [(p[0], "did", p, (0, 10))]))

    def test_an_answer_there_already(self):
        bench = Bench()
        bench.work(P, 0, 7, "give 2 0")
        bench.work(P, 3, 7, "take 2 1")
        locks = bench.locks()
        # The same hand as first, whatever hand comes now and whatever the draft has become.
        self.assertEqual(bench.work(P, 0, 99, "give 2 0"), again(P, 0, 7))
        self.assertEqual(bench.work(P, 3, 99, "take 2 1"), again(P, 3, 20))
        bench.work(P, 4, 50, "give 2 1")
        self.assertEqual(bench.work(P, 3, 7, "take 2 1"), again(P, 3, 20))
        self.assertEqual(bench.locks(), (locks[0] + [(P, change(1))], []))
        self.assertEqual(bench.ready(P)[0], [ready_row(P, (change(0), read(1, 1), change(1)), ((0, 7), (1, 50)))])

    def test_an_answer_with_the_hand_nought(self):
        bench = Bench([0])
        self.assertEqual(bench.work(P, 0, 7, "take 2 0"), first(P, 0, 0))
        self.assertEqual(bench.work(P, 0, 7, "take 2 0"), again(P, 0, 0))

    def test_an_answer_there_already_while_the_pact_waits(self):
        bench = Bench()
        bench.work(P, 0, 7, "give 2 0")
        bench.work(Q, 0, 7, "take 2 1")
        bench.work(Q, 1, 7, "take 2 0")
        self.assertEqual(bench.work(Q, 0, 7, "take 2 1"), again(Q, 0, 20))
        self.assertEqual(bench.works.waiting(), [(Q, read(0, 0))])

    def test_a_lock_that_waits(self):
        bench = Bench()
        bench.work(P, 0, 7, "give 2 0")
        self.assertEqual(bench.work(Q, 2, 8, "add 2 0 1"), NOTHING)
        self.assertEqual(bench.locks(), ([(P, change(0))], [(Q, change(0))]))

    def test_a_pact_that_waits_is_passed_over(self):
        bench = Bench()
        bench.work(P, 0, 7, "give 2 0")
        bench.work(Q, 2, 8, "add 2 0 1")
        # The same step once more, and other ones, also such as would be held.
        for i, text in ((2, "add 2 0 1"), (3, "take 2 1"), (0, "add 2 0 1")):
            self.assertEqual(bench.work(Q, i, 9, text), NOTHING)
        self.assertEqual(bench.locks(), ([(P, change(0))], [(Q, change(0))]))
        # It is the step that waited first that is done.
        self.assertEqual(bench.end(P, "broken"), first(Q, 2, 8))

    def test_a_pact_that_is_bound(self):
        bench = Bench()
        bench.work(P, 0, 7, "give 2 0")
        bench.ready(P)
        # Neither the answer it had, nor another step.
        self.assertEqual(bench.work(P, 0, 7, "give 2 0"), NOTHING)
        self.assertEqual(bench.work(P, 1, 7, "take 2 1"), NOTHING)
        self.assertEqual(bench.locks(), ([(P, change(0))], []))

    def test_one_pact_bound_does_not_bind_another(self):
        bench = Bench()
        bench.work(P, 0, 7, "give 2 0")
        bench.ready(P)
        self.assertEqual(bench.work(Q, 0, 7, "take 2 1"), first(Q, 0, 20))

    def test_the_work_row_is_written_once(self):
        bench = Bench()
        self.assertEqual(bench.work(P, 0, 0, "take 2 0")[0], [("work", P)])
        self.assertEqual(bench.work(P, 1, 0, "take 2 1")[0], [])
        self.assertEqual(bench.work(Q, 1, 0, "take 2 1")[0], [("work", Q)])
        self.assertEqual(bench.work(P, 2, 0, "give 2 2")[0], [])
        # No work row where the first step only waits.
        self.assertEqual(bench.work(R, 0, 0, "take 2 2")[0], [])
        self.assertEqual(bench.stand.lost(), [P, Q])

    def test_a_lock_covered_is_not_noted_again(self):
        bench = Bench()
        bench.work(P, 0, 7, "give 2 0")
        self.assertEqual(bench.work(P, 1, 7, "take 2 0"), again(P, 1, 7))
        self.assertEqual(bench.work(P, 2, 7, "add 2 0 3"), again(P, 2, 7))
        self.assertEqual(bench.locks(), ([(P, change(0))], []))


class DraftTest(unittest.TestCase):
    def test_a_cell_that_the_draft_has_not_and_one_that_it_has(self):
        bench = Bench()
        self.assertEqual(bench.work(P, 0, 7, "take 2 1"), first(P, 0, 20))
        bench.work(P, 1, 5, "give 2 1")
        self.assertEqual(bench.work(P, 2, 0, "take 2 1"), again(P, 2, 5))
        self.assertEqual(bench.work(P, 3, 0, "mean 2 1"), again(P, 3, 5))
        self.assertEqual(bench.work(P, 4, 0, "take 2 2"), again(P, 4, 30))

    def test_two_steps_at_one_cell(self):
        bench = Bench()
        bench.work(P, 0, 1, "add 2 1 5")
        bench.work(P, 1, 1, "add 2 1 100")
        self.assertEqual(bench.work(P, 2, 1, "take 2 1"), again(P, 2, 125))
        bench.work(P, 3, -4, "give 2 1")
        bench.work(P, 4, 1, "add 2 1 1")
        self.assertEqual(bench.ready(P)[0], [ready_row(P, (change(1),), ((1, -3),))])

    def test_a_value_of_nought_in_the_draft(self):
        bench = Bench()
        bench.work(P, 0, 0, "give 2 1")
        self.assertEqual(bench.work(P, 1, 9, "take 2 1"), again(P, 1, 0))
        self.assertEqual(bench.work(P, 2, 9, "sum 2 0 1"), again(P, 2, 10))

    def test_steps_at_several_cells_by_rising_cells(self):
        for order in itertools.permutations((0, 1, 3)):
            bench = Bench()
            for i, cell in enumerate(order):
                bench.work(P, i, 100 + cell, "give 2 %d" % cell)
            locks = tuple(change(cell) for cell in order)
            self.assertEqual(bench.ready(P)[0], [ready_row(P, locks, ((0, 100), (1, 101), (3, 103)))])

    def test_many_cells_by_their_numbers(self):
        bench = Bench(range(12))
        for i, cell in enumerate((10, 9, 2, 11, 1)):
            bench.work(P, i, i, "give 2 %d" % cell)
        self.assertEqual(bench.ready(P)[0][0][4], ((1, 4), (2, 2), (9, 1), (10, 0), (11, 3)))

    def test_sum_over_cells_of_which_some_are_in_the_draft(self):
        bench = Bench()
        bench.work(P, 0, 500, "give 2 1")
        bench.work(P, 1, 0, "add 2 3 1000")
        self.assertEqual(bench.work(P, 2, 0, "sum 2 0 3"), again(P, 2, 10 + 500 + 30 + 1040))
        self.assertEqual(bench.work(P, 3, 0, "sum 2 1 2"), again(P, 3, 530))
        self.assertEqual(bench.work(P, 4, 0, "sum 2 2 2"), again(P, 4, 30))

    def test_a_second_pact_does_not_see_the_first_ones_draft(self):
        bench = Bench()
        bench.work(P, 0, 500, "give 2 1")
        bench.work(Q, 0, 600, "give 2 2")
        self.assertEqual(bench.work(R, 0, 0, "sum 2 0 0"), first(R, 0, 10))
        self.assertEqual(bench.work(P, 1, 0, "take 2 0"), again(P, 1, 10))
        # The first pact's end lets the second read; broken, nothing of the draft is seen.
        bench.work(R, 1, 0, "take 2 1")
        self.assertEqual(bench.end(P, "broken"), again(R, 1, 20))
        self.assertEqual(bench.end(Q, "done"), NOTHING)
        self.assertEqual(bench.stand.cells_told(), [10, 20, 30, 40])

    def test_drafts_of_two_pacts_at_once(self):
        bench = Bench()
        bench.work(P, 0, 500, "give 2 1")
        bench.work(Q, 0, 600, "give 2 2")
        self.assertEqual(bench.ready(Q)[0], [ready_row(Q, (change(2),), ((2, 600),))])
        self.assertEqual(bench.ready(P)[0], [ready_row(P, (change(1),), ((1, 500),))])

    def test_great_numbers(self):
        bench = Bench([10 ** 390, 1])
        self.assertEqual(bench.work(P, 0, 0, "sum 2 0 1"), first(P, 0, 10 ** 390 + 1))
        bench.work(P, 1, -10 ** 390, "give 2 1")
        self.assertEqual(bench.work(P, 2, 0, "sum 2 0 1"), again(P, 2, 0))


class ReadyTest(unittest.TestCase):
    def test_a_pact_with_an_answer(self):
        bench = Bench()
        bench.work(P, 0, 7, "give 2 1")
        told = bench.ready(P, (1, 2, 3))
        self.assertEqual(told, ([("ready", P, (1, 2, 3), (change(1),), ((1, 7),))], [yes(P)]))
        self.assertEqual(bench.stand.bound(), told[0])
        self.assertEqual(bench.stand.cells_told(), [10, 20, 30, 40])

    def test_a_pact_that_only_reads(self):
        bench = Bench()
        bench.work(P, 0, 7, "take 2 1")
        self.assertEqual(bench.ready(P), ([ready_row(P, (read(1, 1),), ())], [yes(P)]))

    def test_a_pact_that_is_bound(self):
        bench = Bench()
        bench.work(P, 0, 7, "give 2 1")
        bench.ready(P)
        for k in range(3):
            self.assertEqual(bench.ready(P), ([], [yes(P)]))
        bench = Bench(rows=[ready_row(R, (change(1),), ((1, 7),))])
        self.assertEqual(bench.ready(R), ([], [yes(R)]))

    def test_a_pact_with_no_answer(self):
        bench = Bench()
        self.assertEqual(bench.ready(P), NOTHING)
        bench.work(Q, 0, 7, "give 2 1")
        self.assertEqual(bench.ready(P), NOTHING)
        # A work row by itself is no answer.
        bench = Bench(rows=[("work", P)])
        self.assertEqual(bench.ready(P), NOTHING)

    def test_a_pact_that_waits(self):
        bench = Bench()
        bench.work(P, 0, 7, "give 2 1")
        bench.work(Q, 0, 7, "give 2 1")
        self.assertEqual(bench.ready(Q), NOTHING)
        # With an answer too.
        bench.work(R, 0, 7, "give 2 2")
        bench.work(R, 1, 7, "give 2 1")
        self.assertEqual(bench.ready(R), NOTHING)
        self.assertEqual(bench.stand.bound(), [])
        bench.end(P, "broken")
        self.assertEqual(bench.ready(Q), ([ready_row(Q, (change(1),), ((1, 7),))], [yes(Q)]))
        bench.end(Q, "broken")
        self.assertEqual(bench.ready(R), ([ready_row(R, (change(2), change(1)), ((1, 7), (2, 7)))], [yes(R)]))

    def test_the_locks_in_the_order_asked_for(self):
        bench = Bench()
        bench.work(P, 0, 7, "take 2 3")
        bench.work(Q, 0, 7, "take 2 2")
        bench.work(P, 1, 7, "sum 2 0 1")
        bench.work(P, 2, 7, "give 2 3")
        bench.work(P, 3, 7, "take 2 0")
        bench.work(P, 4, 7, "mean 2 0")
        self.assertEqual(bench.ready(P)[0], [
            ready_row(P, (read(3, 3), read(0, 1), change(3), ("mean", 0, 0)), ((3, 7),))])

    def test_its_answers_are_forgotten(self):
        bench = Bench()
        bench.work(P, 0, 7, "give 2 1")
        self.assertEqual(bench.turn(), ([], [(0, "ask", P, ())]))
        bench.ready(P)
        asks = [(house, "ask", P, (1, 2)) for house in (0, 1, 3)]
        self.assertEqual(bench.turn(), ([], asks))

    def test_houses_and_words_of_any_leader(self):
        bench = Bench()
        bench.work(OWN, 0, 7, "give 2 1")
        self.assertEqual(bench.ready(OWN, (2,)), ([("ready", OWN, (2,), (change(1),), ((1, 7),))], [yes(OWN)]))


class EndedTest(unittest.TestCase):
    def test_done_and_broken(self):
        for outcome, cells in (("done", [10, 7, 30, 40]), ("broken", [10, 20, 30, 40])):
            bench = Bench()
            bench.work(P, 0, 7, "give 2 1")
            bench.ready(P)
            self.assertEqual(bench.end(P, outcome), NOTHING)
            self.assertEqual(bench.stand.cells_told(), cells)
            self.assertEqual(bench.locks(), ([], []))
            self.assertEqual(bench.turn(), NOTHING)

    def test_a_pact_that_is_not_known_here(self):
        bench = Bench()
        bench.work(P, 0, 7, "give 2 1")
        bench.work(Q, 0, 7, "give 2 1")
        self.assertEqual(bench.end(R, "done"), NOTHING)
        self.assertEqual(bench.locks(), ([(P, change(1))], [(Q, change(1))]))

    def test_the_draft_and_the_answers_are_forgotten(self):
        bench = Bench()
        bench.work(P, 0, 7, "give 2 1")
        bench.work(P, 1, 7, "take 2 0")
        bench.end(P, "broken")
        self.assertEqual(bench.locks(), ([], []))
        self.assertEqual((bench.ready(P), bench.turn()), (NOTHING, NOTHING))
        # Told anew, it is a pact of which nothing is known.
        self.assertEqual(bench.work(P, 1, 7, "take 2 1"), first(P, 1, 20))

    def test_its_waiting_step_is_forgotten(self):
        bench = Bench()
        bench.work(P, 0, 7, "give 2 1")
        bench.work(Q, 0, 8, "give 2 1")
        self.assertEqual(bench.end(Q, "broken"), NOTHING)
        self.assertEqual(bench.locks(), ([(P, change(1))], []))
        self.assertEqual((bench.chase(Q), bench.turn()), (NOTHING, ([], [(0, "ask", P, ())])))
        self.assertEqual(bench.end(P, "broken"), NOTHING)

    def test_one_goes_on(self):
        bench = Bench()
        bench.work(P, 0, 7, "give 2 1")
        bench.work(Q, 4, 8, "add 2 1 5")
        self.assertEqual(bench.end(P, "broken"), first(Q, 4, 8))
        self.assertEqual(bench.locks(), ([(Q, change(1))], []))
        self.assertEqual(bench.ready(Q)[0], [ready_row(Q, (change(1),), ((1, 25),))])

    def test_one_with_answers_goes_on(self):
        bench = Bench()
        bench.work(P, 0, 7, "give 2 1")
        bench.work(Q, 0, 8, "give 2 0")
        bench.work(Q, 1, 8, "sum 2 0 1")
        self.assertEqual(bench.end(P, "broken"), again(Q, 1, 28))
        self.assertEqual(bench.work(Q, 0, 9, "give 2 0"), again(Q, 0, 8))
        self.assertEqual(bench.work(Q, 1, 9, "sum 2 0 1"), again(Q, 1, 28))
        # It waits no more.
        self.assertEqual(bench.work(Q, 2, 9, "take 2 3"), again(Q, 2, 40))

    def test_who_goes_on_sees_what_the_end_row_left(self):
        bench = Bench()
        bench.work(P, 0, 700, "give 2 1")
        bench.ready(P)
        bench.work(Q, 0, 8, "sum 2 0 1")
        self.assertEqual(bench.end(P, "done"), first(Q, 0, 710))
        # And who goes on keeps the hand that it came with.
        bench.work(R, 0, -3, "give 2 0")
        self.assertEqual(bench.end(Q, "broken"), first(R, 0, -3))

    def test_several_go_on_in_the_lists_order(self):
        for order in itertools.permutations((P, Q, R)):
            bench = Bench()
            bench.work(OWN, 0, 7, "give 2 1")
            for k, p in enumerate(order):
                bench.work(p, k, 0, "take 2 1")
            rows, letters = bench.end(OWN, "broken")
            self.assertEqual(rows, [("work", p) for p in order])
            self.assertEqual(letters, [did(p, k, 20) for k, p in enumerate(order)])
            self.assertEqual(bench.locks(), ([(p, read(1, 1)) for p in order], []))

    def test_one_goes_on_and_one_still_waits(self):
        bench = Bench()
        bench.work(OWN, 0, 7, "give 2 1")
        bench.work(OWN, 1, 7, "give 2 2")
        bench.work(P, 0, 1, "add 2 1 1")
        bench.work(Q, 0, 2, "add 2 1 2")
        bench.work(R, 0, 3, "add 2 2 3")
        self.assertEqual(bench.end(OWN, "broken"), ([("work", P), ("work", R)], [did(P, 0, 1), did(R, 0, 3)]))
        self.assertEqual(bench.locks(), ([(P, change(1)), (R, change(2))], [(Q, change(1))]))
        bench.ready(P)
        self.assertEqual(bench.end(P, "done"), first(Q, 0, 2))
        self.assertEqual(bench.ready(Q)[0], [ready_row(Q, (change(1),), ((1, 23),))])

    def test_the_end_of_one_that_waits_lets_others_go_on(self):
        bench = Bench()
        bench.work(P, 0, 0, "take 2 1")
        bench.work(Q, 0, 0, "give 2 1")
        bench.work(R, 0, 0, "take 2 1")
        self.assertEqual(bench.works.waiting(), [(Q, change(1)), (R, read(1, 1))])
        self.assertEqual(bench.end(Q, "broken"), first(R, 0, 20))

    def test_a_pact_that_is_bound_from_the_book(self):
        bench = Bench(rows=[ready_row(P, (change(1),), ((1, 70),))])
        bench.work(Q, 0, 0, "take 2 1")
        self.assertEqual(bench.end(P, "done"), first(Q, 0, 70))


class WalkTest(unittest.TestCase):
    def went(self, p, i, hand):
        return (p[0], "went", p, (i, hand))

    def test_no_row(self):
        for text, hand, changes in (("take 2 1", 20, ()), ("mean 2 1", 20, ()), ("sum 2 1 3", 90, ()),
                                    ("give 2 1", 7, ((1, 7),)), ("add 2 1 -4", 7, ((1, 16),))):
            bench = Bench()
            self.assertEqual(bench.walk(P, 3, 7, text), ([("walked", P, 3, changes, hand)], [self.went(P, 3, hand)]))
            self.assertEqual(bench.stand.cell_at(1), dict(changes).get(1, 20))
            self.assertEqual(bench.locks(), ([], []))

    def test_behind_a_walked_row(self):
        bench = Bench()
        bench.walk(P, 3, 7, "add 2 1 5")
        self.assertEqual(bench.walk(P, 3, 99, "add 2 1 5"), ([], [self.went(P, 3, 7)]))
        bench.walk(P, 4, 7, "take 2 1")
        bench.walk(P, 5, 7, "give 2 1")
        # The row's hand, not what the step would tell by now.
        self.assertEqual(bench.walk(P, 4, 99, "take 2 1"), ([], [self.went(P, 4, 25)]))
        self.assertEqual(bench.stand.cells_told(), [10, 7, 30, 40])

    def test_behind_a_walked_row_whatever_is_known_and_held(self):
        for outcome in ("done", "broken"):
            bench = Bench(rows=[("walked", P, 3, ((1, 5),), 8), ("end", P, outcome, ())])
            bench.work(Q, 0, 0, "give 2 1")
            self.assertEqual(bench.walk(P, 3, 7, "add 2 1 5"), ([], [self.went(P, 3, 8)]))

    def test_behind_an_undone_and_a_void_row(self):
        for rows in ([("walked", P, 3, (), 8), ("undone", P, 3, ())], [("void", P, 3)]):
            for more in ([], [("end", P, "broken", ())], [("end", P, "done", ())]):
                bench = Bench(rows=rows + more)
                self.assertEqual(bench.walk(P, 3, 7, "take 2 1"), NOTHING)

    def test_rows_of_other_steps_and_pacts_do_not_count(self):
        bench = Bench(rows=[("walked", P, 2, (), 8), ("void", P, 4), ("void", Q, 3), ("undone", R, 3, ())])
        self.assertEqual(bench.walk(P, 3, 7, "take 2 1"), ([("walked", P, 3, (), 20)], [self.went(P, 3, 20)]))

    def test_where_an_outcome_is_known(self):
        bench = Bench(rows=[("end", P, "broken", ()), ("end", Q, "done", ())])
        self.assertEqual(bench.walk(P, 3, 7, "take 2 1"), NOTHING)
        self.assertEqual(bench.walk(Q, 3, 7, "give 2 1"), ([("walked", Q, 3, ((1, 7),), 7)], [self.went(Q, 3, 7)]))
        self.assertEqual(bench.walk(R, 3, 7, "take 2 1"), ([("walked", R, 3, (), 7)], [self.went(R, 3, 7)]))

    def test_a_lock_that_does_not_stand(self):
        bench = Bench()
        bench.work(Q, 0, 0, "take 2 1")
        for text in ("give 2 1", "add 2 1 5"):
            self.assertEqual(bench.walk(P, 3, 7, text), NOTHING)
        bench.work(Q, 1, 0, "give 2 2")
        for text in ("take 2 2", "mean 2 2", "sum 2 1 2", "sum 2 0 3"):
            self.assertEqual(bench.walk(P, 3, 7, text), NOTHING)
        self.assertEqual(bench.locks(), ([(Q, read(1, 1)), (Q, change(2))], []))
        self.assertIs(bench.stand.walked_at(P, 3), None)
        # It may stand later.
        bench.end(Q, "broken")
        self.assertEqual(bench.walk(P, 3, 7, "sum 2 0 3"), ([("walked", P, 3, (), 100)], [self.went(P, 3, 100)]))

    def test_a_lock_that_stands_beside_others(self):
        bench = Bench()
        bench.work(Q, 0, 0, "mean 2 1")
        self.assertEqual(bench.walk(P, 0, 7, "take 2 1"), ([("walked", P, 0, (), 20)], [self.went(P, 0, 20)]))
        self.assertEqual(bench.walk(P, 1, 7, "mean 2 1"), NOTHING)
        self.assertEqual(bench.walk(P, 1, 7, "give 2 0"), ([("walked", P, 1, ((0, 7),), 7)], [self.went(P, 1, 7)]))

    def test_a_lock_that_stands_though_others_wait(self):
        bench = Bench()
        bench.work(Q, 0, 0, "take 2 1")
        bench.work(R, 0, 0, "give 2 1")
        self.assertEqual(bench.walk(P, 0, 7, "take 2 1"), ([("walked", P, 0, (), 20)], [self.went(P, 0, 20)]))
        self.assertEqual(bench.locks(), ([(Q, read(1, 1))], [(R, change(1))]))

    def test_a_lock_bound_from_the_book(self):
        bench = Bench(rows=[ready_row(Q, (change(1),), ((1, 70),))])
        self.assertEqual(bench.walk(P, 0, 7, "take 2 1"), NOTHING)
        bench.end(Q, "done")
        self.assertEqual(bench.walk(P, 0, 7, "take 2 1"), ([("walked", P, 0, (), 70)], [self.went(P, 0, 70)]))

    def test_no_lock_is_left(self):
        bench = Bench()
        bench.walk(P, 0, 7, "give 2 1")
        self.assertEqual(bench.work(Q, 0, 0, "take 2 1"), first(Q, 0, 7))
        self.assertEqual(bench.locks(), ([(Q, read(1, 1))], []))

    def test_drafts_of_held_pacts_are_not_seen(self):
        bench = Bench()
        bench.work(Q, 0, 500, "give 2 1")
        self.assertEqual(bench.walk(P, 0, 7, "take 2 0"), ([("walked", P, 0, (), 10)], [self.went(P, 0, 10)]))
        bench.end(Q, "broken")
        self.assertEqual(bench.walk(P, 1, 7, "sum 2 0 1"), ([("walked", P, 1, (), 30)], [self.went(P, 1, 30)]))


class UndoTest(unittest.TestCase):
    def undid(self, p, i):
        return (p[0], "undid", p, (i,))

    def test_no_row(self):
        bench = Bench()
        self.assertEqual(bench.undo(P, 3, "add 2 1 5"), ([("void", P, 3)], [self.undid(P, 3)]))
        self.assertEqual(bench.stand.cells_told(), [10, 20, 30, 40])
        # Also where its lock would not stand.
        bench.work(Q, 0, 0, "give 2 1")
        self.assertEqual(bench.undo(P, 4, "add 2 1 5"), ([("void", P, 4)], [self.undid(P, 4)]))

    def test_an_undone_and_a_void_one(self):
        for rows in ([("walked", P, 3, ((1, 5),), 8), ("undone", P, 3, ((1, 9),))], [("void", P, 3)]):
            bench = Bench(rows=rows)
            cells = bench.stand.cells_told()
            bench.work(Q, 0, 0, "give 2 1")
            for k in range(2):
                self.assertEqual(bench.undo(P, 3, "add 2 1 5"), ([], [self.undid(P, 3)]))
            self.assertEqual(bench.stand.cells_told(), cells)

    def test_a_walked_add(self):
        bench = Bench()
        bench.walk(P, 3, 7, "add 2 1 5")
        self.assertEqual(bench.undo(P, 3, "add 2 1 5"), ([("undone", P, 3, ((1, 20),))], [self.undid(P, 3)]))
        self.assertEqual(bench.stand.cells_told(), [10, 20, 30, 40])
        self.assertEqual(bench.undo(P, 3, "add 2 1 5"), ([], [self.undid(P, 3)]))
        self.assertEqual(bench.locks(), ([], []))

    def test_the_values_that_stand_by_then(self):
        bench = Bench()
        bench.walk(P, 3, 7, "add 2 1 5")
        bench.walk(Q, 0, 1000, "give 2 1")
        self.assertEqual(bench.undo(P, 3, "add 2 1 5"), ([("undone", P, 3, ((1, 995),))], [self.undid(P, 3)]))
        self.assertEqual(bench.stand.cells_told(), [10, 995, 30, 40])

    def test_steps_whose_changes_are_none(self):
        for text in ("take 2 1", "mean 2 1", "sum 2 0 1"):
            bench = Bench()
            bench.walk(P, 3, 7, text)
            self.assertEqual(bench.undo(P, 3, text), ([("undone", P, 3, ())], [self.undid(P, 3)]))
            self.assertEqual(bench.stand.cells_told(), [10, 20, 30, 40])

    def test_where_its_lock_does_not_stand(self):
        bench = Bench()
        bench.walk(P, 3, 7, "add 2 1 5")
        for text in ("take 2 1", "mean 2 1", "sum 2 0 1"):
            bench.walk(P, 4, 7, text)
            bench.work(Q, 0, 0, "take 2 1")
            bench.work(Q, 1, 0, "give 2 0")
            self.assertEqual(bench.undo(P, 3, "add 2 1 5"), NOTHING)
            self.assertEqual(bench.stand.walked_at(P, 3)[0], "walked")
            # Without changes the lock does not count.
            bench.work(Q, 2, 0, "give 2 1")
            self.assertEqual(bench.undo(P, 4, text)[1], [self.undid(P, 4)])
            self.assertEqual(bench.stand.walked_at(P, 4), ("undone", P, 4, ()))
        bench.end(Q, "broken")
        self.assertEqual(bench.undo(P, 3, "add 2 1 5")[0], [("undone", P, 3, ((1, 20),))])

    def test_where_its_lock_stands_though_others_wait(self):
        bench = Bench()
        bench.walk(P, 3, 7, "add 2 1 5")
        bench.work(Q, 0, 0, "give 2 0")
        bench.work(R, 0, 0, "sum 2 0 1")
        self.assertEqual(bench.undo(P, 3, "add 2 1 5")[0], [("undone", P, 3, ((1, 20),))])

    def test_whatever_outcome_is_known(self):
        for outcome in ("done", "broken"):
            bench = Bench(rows=[("walked", P, 3, (), 8), ("end", P, outcome, ())])
            self.assertEqual(bench.undo(P, 3, "take 2 1"), ([("undone", P, 3, ())], [self.undid(P, 3)]))
            self.assertEqual(bench.undo(P, 4, "take 2 1"), ([("void", P, 4)], [self.undid(P, 4)]))

    def test_an_add_that_changes_nothing_has_a_change_still(self):
        bench = Bench()
        bench.walk(P, 3, 7, "add 2 1 0")
        bench.work(Q, 0, 0, "take 2 1")
        self.assertEqual(bench.undo(P, 3, "add 2 1 0"), NOTHING)
        bench.end(Q, "broken")
        self.assertEqual(bench.undo(P, 3, "add 2 1 0")[0], [("undone", P, 3, ((1, 20),))])

    def test_a_void_step_is_never_walked(self):
        bench = Bench()
        bench.undo(P, 3, "add 2 1 5")
        self.assertEqual(bench.walk(P, 3, 7, "add 2 1 5"), NOTHING)
        self.assertEqual(bench.stand.cells_told(), [10, 20, 30, 40])


class ComingUpTest(unittest.TestCase):
    def test_books_with_no_bound_pact(self):
        rows = [("begin", OWN, "held take 2 0"), ("work", P), ("work", Q), ready_row(Q, (change(1),), ((1, 7),)),
                ("end", Q, "done", ()), ("walked", R, 0, ((0, 5),), 5), ("void", R, 1)]
        bench = Bench(rows=rows)
        self.assertEqual(bench.locks(), ([], []))
        self.assertEqual((bench.works.drafts, bench.works.answers, bench.works.pending), ({}, {}, {}))
        self.assertEqual(bench.turn(), NOTHING)
        self.assertEqual(bench.work(R, 0, 0, "sum 2 0 1"), first(R, 0, 12))

    def test_one_bound_pact(self):
        bench = Bench(rows=[("work", P), ready_row(P, (read(0, 1), change(1)), ((1, 70),))])
        self.assertEqual(bench.locks(), ([(P, read(0, 1)), (P, change(1))], []))
        self.assertEqual(bench.works.drafts, {P: {1: 70}})
        self.assertEqual((bench.works.answers, bench.works.pending), ({}, {}))
        self.assertEqual(bench.stand.cells_told(), [10, 20, 30, 40])
        self.assertEqual(bench.work(P, 0, 0, "take 2 0"), NOTHING)
        self.assertEqual(bench.work(Q, 0, 0, "give 2 0"), NOTHING)
        self.assertEqual(bench.works.waiting(), [(Q, change(0))])

    def test_several_bound_pacts_in_the_order_of_their_rows(self):
        for order in itertools.permutations(((P, 0), (Q, 1), (R, 2), (FAR, 3))):
            rows = [ready_row(p, (change(cell), read(4, 5)), ((cell, 100 + cell),)) for p, cell in order]
            bench = Bench([0] * 6, rows=rows + [("end", Q, "broken", ())])
            left = [(p, cell) for p, cell in order if p != Q]
            held = [pair for p, cell in left for pair in ((p, change(cell)), (p, read(4, 5)))]
            self.assertEqual(bench.locks(), (held, []))
            self.assertEqual(bench.works.drafts, {p: {cell: 100 + cell} for p, cell in left})

    def test_the_same_locks_as_ahead_of_the_fall(self):
        bench = Bench()
        for i, text in enumerate(("take 2 0", "sum 2 0 2", "give 2 0", "mean 2 1", "take 2 1", "add 2 2 1")):
            bench.work(P, i, i, text)
        bench.work(Q, 0, 0, "give 2 3")
        bench.work(R, 0, 0, "give 2 3")
        bench.ready(P)
        works = Works(bench.stand, HOME, MANY)
        self.assertEqual(works.held(), [pair for pair in bench.works.held() if pair[0] == P])
        self.assertEqual(works.waiting(), [])
        self.assertEqual(works.drafts, {P: {0: 2, 2: 31}})

    def test_the_stand_handed_in_is_not_changed(self):
        rows = [("work", P), ready_row(P, (change(1),), ((1, 70),)), ("work", Q)]
        bench = Bench(rows=rows)
        self.assertEqual((bench.stand.bound(), bench.stand.lost()), ([rows[1]], [Q]))
        self.assertEqual(bench.stand.cells_told(), [10, 20, 30, 40])


class TurnTest(unittest.TestCase):
    def asks(self, p, houses, *others):
        return [(other, "ask", p, houses) for other in others]

    def test_one_bound_pact(self):
        for home, others in ((0, (1, 2, 3)), (2, (0, 1, 3)), (3, (0, 1, 2))):
            bench = Bench(rows=[ready_row(P, (change(1),), ((1, 70),), (2, 3))], home=home)
            # Also to houses that are none of the pact's, and also where this house leads it.
            self.assertEqual(bench.turn(), ([], self.asks(P, (2, 3), *others)))

    def test_several_bound_pacts_by_rising_names(self):
        names = [(0, 2), (0, 10), (2, 0), (10, 0)]
        for order in itertools.permutations(names):
            bench = Bench(rows=[ready_row(p, (read(0, 0),), (), (2, p[1])) for p in order])
            self.assertEqual(bench.turn(), ([], [ask for p in names for ask in self.asks(p, (2, p[1]), 0, 1, 3)]))

    def test_a_single_house(self):
        bench = Bench(rows=[ready_row((0, 0), (change(1),), ((1, 70),), (0,))], home=0, many=1)
        self.assertEqual(bench.turn(), NOTHING)
        bench.work((0, 1), 0, 0, "take 0 0")
        bench.work((0, 2), 0, 0, "give 0 0")
        self.assertEqual(bench.turn(), ([], [(0, "seek", (0, 1), (((0, 2), 0),))]))

    def test_pacts_with_answers(self):
        names = [(0, 2), (0, 10), (1, 0), (10, 0)]
        for order in itertools.permutations(names):
            bench = Bench()
            for p in order:
                bench.work(p, 0, 0, "take 2 0")
            bench.work(order[0], 1, 0, "take 2 1")
            self.assertEqual(bench.turn(), ([], [(p[0], "ask", p, ()) for p in names]))

    def test_a_pact_that_this_house_leads(self):
        bench = Bench()
        bench.work(OWN, 0, 0, "give 2 0")
        self.assertEqual(bench.turn(), NOTHING)
        bench.work((HOME, 1), 0, 0, "take 2 0")
        self.assertEqual(bench.turn(), ([], [(HOME, "seek", OWN, (((HOME, 1), HOME),))]))

    def test_a_pact_that_waits_with_and_without_an_answer(self):
        bench = Bench()
        bench.work(R, 0, 0, "give 2 0")
        bench.work(Q, 0, 0, "take 2 1")
        bench.work(Q, 1, 0, "take 2 0")
        bench.work(P, 0, 0, "take 2 0")
        # Each is asked about once, by rising names; chased by the list's order.
        self.assertEqual(bench.turn(), ([], [
            (0, "ask", P, ()), (0, "ask", Q, ()), (1, "ask", R, ()),
            (1, "seek", R, ((Q, HOME),)), (1, "seek", R, ((P, HOME),))]))

    def test_waiting_ones_in_the_lists_order(self):
        for order in itertools.permutations((P, Q, R)):
            bench = Bench()
            bench.work(OWN, 0, 0, "give 2 0")
            for p in order:
                bench.work(p, 0, 0, "take 2 0")
            asks = [(p[0], "ask", p, ()) for p in (P, Q, R)]
            seeks = [(HOME, "seek", OWN, ((p, HOME),)) for p in order]
            self.assertEqual(bench.turn(), ([], asks + seeks))

    def test_all_together(self):
        bench = Bench(rows=[ready_row((1, 7), (change(3),), ((3, 1),), (2, 3)), ready_row(OWN, (read(2, 2),), (), (2,))])
        bench.work(R, 0, 0, "give 2 0")
        bench.work(P, 0, 0, "take 2 3")
        self.assertEqual(bench.turn(), ([], self.asks((1, 7), (2, 3), 0, 1, 3) + self.asks(OWN, (2,), 0, 1, 3) + [
            (0, "ask", P, ()), (1, "ask", R, ()), (1, "seek", (1, 7), ((P, HOME),))]))

    def test_walked_pacts_are_not_asked_about(self):
        bench = Bench()
        bench.walk(P, 0, 0, "give 2 0")
        bench.undo(P, 1, "take 2 0")
        self.assertEqual(bench.turn(), NOTHING)

    def test_a_turn_changes_nothing_here(self):
        bench = Bench(rows=[ready_row((1, 7), (change(3),), ((3, 1),), (2, 3))])
        bench.work(R, 0, 0, "give 2 0")
        bench.work(P, 0, 0, "take 2 3")
        locks = bench.locks()
        self.assertEqual(bench.turn(), bench.turn())
        self.assertEqual(bench.locks(), locks)


class ChaseTest(unittest.TestCase):
    def test_a_pact_that_does_not_wait(self):
        bench = Bench()
        bench.work(P, 0, 0, "give 2 0")
        for p in (P, Q):
            for path in ((), ((R, 1),), ((P, 0), (Q, 1))):
                self.assertEqual(bench.chase(p, path), NOTHING)

    def test_seek_goes_to_the_leader_of_whom_it_is_behind(self):
        bench = Bench()
        bench.work(R, 0, 0, "give 2 0")
        bench.work(P, 0, 0, "take 2 0")
        self.assertEqual(bench.chase(P), ([], [(1, "seek", R, ((P, HOME),))]))
        self.assertEqual(bench.chase(P, ((Q, 1),)), ([], [(1, "seek", R, ((Q, 1), (P, HOME)))]))

    def test_a_ring_goes_to_the_victims_leader(self):
        bench = Bench()
        bench.work(R, 0, 0, "give 2 0")
        bench.work(P, 0, 0, "take 2 0")
        self.assertEqual(bench.chase(P, ((R, 1),)), ([], [(1, "ring", R, ((R, 1), (P, HOME)))]))
        bench.work(Q, 0, 0, "take 2 0")
        self.assertEqual(bench.chase(Q, ((R, 1),)), ([], [(0, "ring", Q, ((R, 1), (Q, HOME)))]))
        # This house leads the victim.
        bench.work((HOME, 7), 0, 0, "take 2 0")
        path = ((R, 1), ((HOME, 7), HOME))
        self.assertEqual(bench.chase((HOME, 7), ((R, 1),)), ([], [(HOME, "ring", (HOME, 7), path)]))

    def test_a_ring_at_this_house_at_its_turn(self):
        bench = Bench()
        bench.work(P, 0, 0, "take 2 0")
        bench.work(R, 0, 0, "take 2 0")
        bench.work(P, 1, 0, "give 2 0")
        bench.work(R, 1, 0, "give 2 0")
        self.assertEqual(bench.turn(), ([], [
            (0, "ask", P, ()), (1, "ask", R, ()),
            (1, "ring", R, ((P, HOME), (R, HOME))), (1, "ring", R, ((R, HOME), (P, HOME)))]))

    def test_behind_a_pact_of_another_link(self):
        bench = Bench()
        bench.work(R, 0, 0, "give 2 0")
        bench.work(P, 0, 0, "take 2 0")
        self.assertEqual(bench.chase(P, ((Q, 1), (R, 0))), NOTHING)


class ModelTest(unittest.TestCase):
    """Drawn calls, beside a second telling."""

    def draw_step(self, chance):
        low = chance.randrange(3)
        return chance.choice(("take 2 %d" % low, "mean 2 %d" % low, "give 2 %d" % low, "add 2 %d 3" % low,
                              "sum 2 %d %d" % (low, chance.randrange(low, 3))))

    def draw(self, chance, ended):
        p = chance.choice((P, Q, R, OWN))
        walked = (p[0], p[1] + 5)
        i = chance.randrange(4)
        # One step has one text, as a pact's steps have.
        text = self.draw_step(random.Random(str((p, i, chance.choice((0, 0, 0, 1))))))
        name = chance.choice(("work", "work", "work", "work", "ready", "end", "walk", "undo", "turn", "chase"))
        if name == "end" and p not in ended and chance.randrange(2):
            ended[p] = True
            return (name, p, chance.choice(("done", "broken")))
        if name in ("work", "ready", "end") and p in ended:
            return ("turn",)
        parts = {"work": (p, i, chance.randrange(9), text), "ready": (p, (0, 2)),
                 "walk": (walked, i, chance.randrange(9), text), "undo": (walked, i, text),
                 "chase": (p, chance.choice(((), ((Q, 0),), ((P, 1), (R, 0)))))}
        return (name,) + parts[name] if name in parts else ("turn",)

    def model_told(self, model, call):
        sheet = ModelSheet(model)
        if call[0] == "end":
            model.book.append(("end", call[1], call[2], ()))
            model.ended(sheet, call[1])
        elif call[0] == "turn":
            model.works_turn(sheet)
        else:
            getattr(model, call[0])(sheet, *call[1:])
        return (sheet.rows, [(to,) + letter for to, letter in sheet.letters])

    def test_beside_the_model(self):
        words = {}
        for seed in range(400):
            chance = random.Random(seed)
            bench = Bench([10, 20, 30])
            model = Model([10, 20, 30], HOME, MANY)
            ended = {}
            for k in range(60):
                call = self.draw(chance, ended)
                told = getattr(bench, call[0])(*call[1:])
                self.assertEqual(told, self.model_told(model, call), (seed, k, call))
                self.assertEqual(bench.locks(), (model.held(), model.waiting()))
                self.assertEqual(bench.stand.cells_told(), model.cells())
                for letter in told[1]:
                    words[letter[1]] = words.get(letter[1], 0) + 1
                if chance.randrange(40) == 0:
                    bench.works = Works(bench.stand, HOME, MANY)
                    model.empty()
                    for row in model.bound():
                        model.pairs += [(row[1], lock) for lock in row[3]]
        self.assertGreater(min(words.get(word, 0) for word in ("did", "yes", "went", "undid", "ask", "seek", "ring")), 50)


if __name__ == "__main__":
    unittest.main()
