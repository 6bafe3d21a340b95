import itertools
import random
import unittest

from pactroom.errors import PactError, Waiting
from pactroom.kinds import Change, Mean, Read, lock_of
from pactroom.locks import Locks

A = (0, 0)
B = (0, 1)
C = (1, 0)
D = (10 ** 39, 10 ** 39)


def asked(*pairs):
    """Locks for which these pairs were asked in turn, with what was told."""
    locks = Locks()
    return locks, [locks.ask(p, lock) for p, lock in pairs]


class AskingTest(unittest.TestCase):
    def test_empty_at_first(self):
        locks = Locks()
        self.assertEqual((locks.held(), locks.waiting()), ([], []))
        self.assertIs(locks.behind(A), None)
        self.assertIs(locks.stands(A, Change(0, 9)), True)
        self.assertEqual(locks.free(A), [])

    def test_the_example_of_the_document(self):
        locks = Locks()
        self.assertIs(locks.ask("a", Read(0, 5)), True)
        self.assertIs(locks.ask("b", Change(3, 3)), False)
        self.assertEqual(locks.behind("b"), "a")
        self.assertIs(locks.ask("a", Read(2, 4)), True)
        self.assertEqual(locks.held(), [("a", ("read", 0, 5))])
        self.assertIs(locks.ask("a", Change(3, 3)), False)
        self.assertEqual(locks.behind("a"), "b")
        self.assertEqual(locks.behind("b"), "a")
        self.assertEqual(locks.held(), [("a", ("read", 0, 5))])
        self.assertEqual(locks.waiting(), [("b", ("change", 3, 3)), ("a", ("change", 3, 3))])

    def test_held_beside_others(self):
        locks, told = asked((A, Read(0, 3)), (B, Mean(2, 5)), (C, Read(0, 9)), (D, Change(10, 10)))
        self.assertEqual(told, [True, True, True, True])
        self.assertEqual(locks.held(), [(A, ("read", 0, 3)), (B, ("mean", 2, 5)), (C, ("read", 0, 9)),
                                        (D, ("change", 10, 10))])
        self.assertEqual(locks.waiting(), [])

    def test_one_is_not_hindered_by_ones_own_locks(self):
        locks, told = asked((A, Read(0, 3)), (A, Change(0, 3)), (A, Mean(2, 6)), (B, Read(6, 6)), (B, Read(3, 3)))
        self.assertEqual(told, [True, True, True, True, False])
        self.assertEqual(locks.behind(B), A)

    def test_one_that_waits_hinders_those_behind_it(self):
        # C's read stands beside A's, but B asked ahead of it.
        locks, told = asked((A, Read(0, 0)), (B, Change(0, 0)), (C, Read(0, 0)))
        self.assertEqual(told, [True, False, False])
        self.assertEqual(locks.held(), [(A, ("read", 0, 0))])
        self.assertEqual(locks.waiting(), [(B, ("change", 0, 0)), (C, ("read", 0, 0))])

    def test_one_that_waits_is_passed_by_one_that_does_not_hinder_it(self):
        locks, told = asked((A, Read(0, 0)), (B, Change(0, 1)), (C, Change(2, 2)), (A, Read(2, 2)))
        self.assertEqual(told, [True, False, True, False])
        self.assertEqual(locks.held(), [(A, ("read", 0, 0)), (C, ("change", 2, 2))])
        self.assertEqual(locks.waiting(), [(B, ("change", 0, 1)), (A, ("read", 2, 2))])

    def test_asking_while_one_waits_is_refused(self):
        locks, told = asked((A, Read(0, 0)), (B, Read(5, 6)), (B, Change(0, 0)))
        self.assertEqual(told, [True, True, False])
        before = (locks.held(), locks.waiting())
        # Also for what is covered by a lock that it holds, and for what would be held at once.
        for lock in (Change(0, 0), Read(5, 5), Read(9, 9), Read(0, 0)):
            with self.assertRaises(Waiting) as caught:
                locks.ask(B, lock)
            self.assertIsInstance(caught.exception, PactError)
            self.assertEqual((locks.held(), locks.waiting()), before)
        self.assertEqual(locks.behind(B), A)
        self.assertEqual(locks.free(A), [B])
        self.assertIs(locks.ask(B, Read(9, 9)), True)

    def test_one_that_is_covered_changes_nothing(self):
        locks, told = asked((A, Change(0, 5)), (B, Read(9, 9)))
        before = locks.held()
        for lock in (Change(0, 5), Mean(0, 5), Read(5, 5), Change(2, 3)):
            self.assertIs(locks.ask(A, lock), True)
            self.assertEqual(locks.held(), before)

    def test_one_that_is_covered_goes_ahead_of_one_that_waits(self):
        locks, told = asked((A, Mean(0, 5)), (B, Change(3, 3)))
        self.assertEqual(told, [True, False])
        self.assertIs(locks.ask(A, Read(3, 3)), True)
        self.assertIs(locks.ask(A, Mean(3, 3)), True)
        self.assertEqual(locks.waiting(), [(B, ("change", 3, 3))])

    def test_two_locks_together_do_not_cover(self):
        locks, told = asked((A, Read(0, 1)), (A, Read(2, 3)), (A, Read(0, 3)), (A, Mean(1, 1)), (A, Read(1, 2)))
        self.assertEqual(told, [True] * 5)
        self.assertEqual(locks.held(), [(A, ("read", 0, 1)), (A, ("read", 2, 3)), (A, ("read", 0, 3)),
                                        (A, ("mean", 1, 1))])

    def test_a_lock_of_another_pact_does_not_cover(self):
        locks, told = asked((A, Read(0, 5)), (B, Read(1, 2)), (B, Read(1, 1)))
        self.assertEqual(told, [True, True, True])
        self.assertEqual(locks.held(), [(A, ("read", 0, 5)), (B, ("read", 1, 2))])

    def test_a_lesser_lock_does_not_cover(self):
        locks, told = asked((A, Read(0, 0)), (A, Mean(0, 0)), (A, Change(0, 0)))
        self.assertEqual(told, [True, True, True])
        self.assertEqual(locks.held(), [(A, ("read", 0, 0)), (A, ("mean", 0, 0)), (A, ("change", 0, 0))])

    def test_big_cells(self):
        big = 10 ** 60 - 1
        locks, told = asked((A, Change(0, big - 1)), (B, Change(big, big)), (C, Read(big - 1, big)))
        self.assertEqual(told, [True, True, False])
        self.assertEqual(locks.waiting(), [(C, ("read", big - 1, big))])


class FreeingTest(unittest.TestCase):
    def test_one_that_has_no_pair(self):
        locks, told = asked((A, Change(0, 0)), (B, Read(0, 0)))
        self.assertEqual(locks.free(C), [])
        self.assertEqual((locks.held(), locks.waiting()), ([(A, ("change", 0, 0))], [(B, ("read", 0, 0))]))

    def test_all_pairs_leave(self):
        locks, told = asked((A, Read(0, 0)), (B, Read(7, 7)), (A, Change(3, 3)), (A, Change(7, 7)))
        self.assertEqual(locks.free(A), [])
        self.assertEqual((locks.held(), locks.waiting()), ([(B, ("read", 7, 7))], []))
        self.assertIs(locks.ask(A, Read(3, 3)), True)

    def test_none_is_let_in(self):
        locks, told = asked((A, Read(0, 0)), (B, Read(0, 0)), (C, Change(0, 0)))
        self.assertEqual(locks.free(A), [])
        self.assertEqual(locks.waiting(), [(C, ("change", 0, 0))])

    def test_one_is_let_in_and_the_next_waits_on(self):
        locks, told = asked((A, Change(0, 0)), (B, Change(0, 0)), (C, Change(0, 0)))
        self.assertEqual(locks.free(A), [B])
        self.assertEqual(locks.held(), [(B, ("change", 0, 0))])
        self.assertEqual(locks.waiting(), [(C, ("change", 0, 0))])
        self.assertEqual(locks.free(B), [C])
        self.assertEqual(locks.free(C), [])
        self.assertEqual((locks.held(), locks.waiting()), ([], []))

    def test_several_are_let_in_in_the_order_of_their_pairs(self):
        # C and B hold something first, C ahead of B; their waiting pairs come the other way about.
        locks, told = asked((A, Change(0, 3)), (C, Read(9, 9)), (B, Read(9, 9)), (D, Read(0, 0)), (B, Mean(1, 1)),
                            (C, Change(2, 2)))
        self.assertEqual(told, [True, True, True, False, False, False])
        self.assertEqual(locks.free(A), [D, B, C])
        self.assertEqual(locks.held(), [(C, ("read", 9, 9)), (B, ("read", 9, 9)), (D, ("read", 0, 0)),
                                        (B, ("mean", 1, 1)), (C, ("change", 2, 2))])

    def test_some_are_let_in_some_wait_on(self):
        locks, told = asked((A, Change(0, 3)), (B, Read(0, 0)), (C, Change(0, 0)), (D, Read(3, 3)))
        self.assertEqual(locks.free(A), [B, D])
        self.assertEqual(locks.waiting(), [(C, ("change", 0, 0))])
        self.assertEqual(locks.behind(C), B)

    def test_one_that_waits_is_freed(self):
        locks, told = asked((A, Read(0, 0)), (B, Change(0, 0)), (C, Read(0, 0)), (D, Change(0, 0)))
        # C waited for B's waiting pair alone; B itself is not told.
        self.assertEqual(locks.free(B), [C])
        self.assertEqual(locks.held(), [(A, ("read", 0, 0)), (C, ("read", 0, 0))])
        self.assertEqual(locks.waiting(), [(D, ("change", 0, 0))])
        self.assertEqual(locks.free(D), [])
        self.assertEqual(locks.waiting(), [])

    def test_one_that_holds_and_waits_is_freed(self):
        locks, told = asked(("a", Read(0, 5)), ("b", Change(3, 3)), ("a", Change(3, 3)))
        self.assertEqual(locks.free("a"), ["b"])
        self.assertEqual((locks.held(), locks.waiting()), ([("b", ("change", 3, 3))], []))

    def test_freed_twice(self):
        locks, told = asked((A, Change(0, 0)), (B, Change(0, 0)))
        self.assertEqual(locks.free(A), [B])
        self.assertEqual(locks.free(A), [])


class StandingTest(unittest.TestCase):
    def test_where_others_hold(self):
        locks, told = asked((A, Read(0, 3)), (B, Mean(5, 5)))
        for lock, answer in ((Read(0, 9), True), (Mean(0, 4), True), (Mean(3, 5), False), (Change(3, 3), False),
                             (Change(4, 4), True), (Change(5, 5), False), (Change(6, 9), True)):
            self.assertIs(locks.stands(C, lock), answer, lock.told())

    def test_where_others_only_wait(self):
        locks, told = asked((A, Read(0, 0)), (B, Change(0, 4)))
        self.assertEqual(told, [True, False])
        self.assertIs(locks.stands(C, Read(0, 0)), True)
        self.assertIs(locks.stands(C, Change(4, 4)), True)
        self.assertIs(locks.stands(C, Change(0, 0)), False)

    def test_for_one_that_holds(self):
        locks, told = asked((A, Change(0, 3)), (B, Read(5, 5)))
        self.assertIs(locks.stands(A, Change(0, 3)), True)
        self.assertIs(locks.stands(A, Read(0, 5)), True)
        self.assertIs(locks.stands(A, Change(0, 5)), False)
        self.assertIs(locks.stands(B, Read(3, 3)), False)

    def test_for_one_that_waits(self):
        locks, told = asked((A, Read(0, 0)), (B, Change(0, 0)))
        self.assertIs(locks.stands(B, Read(0, 0)), True)
        self.assertIs(locks.stands(B, Change(0, 0)), False)
        self.assertIs(locks.stands(A, Change(0, 0)), True)

    def test_it_leaves_nothing(self):
        locks, told = asked((A, Read(0, 0)))
        self.assertIs(locks.stands(B, Read(0, 0)), True)
        self.assertIs(locks.stands(B, Change(0, 0)), False)
        self.assertEqual((locks.held(), locks.waiting()), ([(A, ("read", 0, 0))], []))


class BehindTest(unittest.TestCase):
    def test_behind_a_held_pair(self):
        locks, told = asked((A, Change(0, 0)), (B, Read(0, 0)))
        self.assertEqual(locks.behind(B), A)

    def test_behind_a_waiting_pair(self):
        locks, told = asked((A, Read(0, 0)), (B, Change(0, 0)), (C, Read(0, 0)))
        self.assertEqual(locks.behind(C), B)
        self.assertEqual(locks.behind(B), A)

    def test_the_foremost_counts_held_or_waiting(self):
        # For D the waiting pair of B lies ahead of the held one of C.
        locks, told = asked((A, Read(0, 0)), (B, Change(0, 1)), (C, Change(2, 2)), (D, Read(1, 2)))
        self.assertEqual(told, [True, False, True, False])
        self.assertEqual(locks.behind(D), B)
        self.assertEqual(locks.free(B), [])
        self.assertEqual(locks.behind(D), C)

    def test_one_that_does_not_hinder_is_passed_over(self):
        locks, told = asked((A, Read(0, 0)), (B, Read(0, 0)), (B, Mean(1, 1)), (C, Mean(0, 1)))
        self.assertEqual(told, [True, True, True, False])
        self.assertEqual(locks.behind(C), B)

    def test_ones_own_pair_is_passed_over(self):
        locks, told = asked((A, Change(0, 0)), (B, Change(1, 1)), (A, Change(0, 1)))
        self.assertEqual(told, [True, True, False])
        self.assertEqual(locks.behind(A), B)

    def test_one_behind_the_waiting_one_does_not_count(self):
        locks, told = asked((A, Change(0, 0)), (B, Change(0, 0)), (C, Change(0, 0)))
        self.assertEqual(locks.behind(B), A)
        self.assertEqual(locks.behind(C), A)
        locks.free(A)
        self.assertIs(locks.behind(B), None)
        self.assertEqual(locks.behind(C), B)

    def test_others_are_behind_nobody(self):
        locks, told = asked((A, Change(0, 0)), (B, Read(0, 0)))
        self.assertIs(locks.behind(A), None)
        self.assertIs(locks.behind(C), None)


class OwnTest(unittest.TestCase):
    def test_lists_told_are_the_askers_own(self):
        locks, told = asked((A, Change(0, 0)), (B, Read(0, 0)), (C, Read(0, 0)))
        held = [(A, ("change", 0, 0))]
        waiting = [(B, ("read", 0, 0)), (C, ("read", 0, 0))]
        locks.held().append((D, ("read", 9, 9)))
        locks.waiting().clear()
        locks.held().clear()
        self.assertEqual((locks.held(), locks.waiting()), (held, waiting))
        locks.free(A).clear()
        locks.free(D).append(A)
        self.assertEqual(locks.free(D), [])
        self.assertEqual((locks.held(), locks.waiting()), (waiting, []))

    def test_lists_told_earlier_stay(self):
        locks, told = asked((A, Change(0, 0)), (B, Read(0, 0)))
        held = locks.held()
        waiting = locks.waiting()
        locks.free(A)
        locks.ask(C, Read(5, 5))
        self.assertEqual((held, waiting), ([(A, ("change", 0, 0))], [(B, ("read", 0, 0))]))

    def test_a_lock_handed_in_stays(self):
        locks = Locks()
        lock = Read(1, 4)
        for p in (A, B):
            locks.ask(p, lock)
            locks.stands(p, lock)
        locks.free(A)
        self.assertEqual(lock.told(), ("read", 1, 4))
        self.assertEqual(locks.held(), [(B, ("read", 1, 4))])

    def test_two_objects_hang_on_nothing_of_one_another(self):
        one = Locks()
        other = Locks()
        self.assertIs(one.ask(A, Change(0, 0)), True)
        self.assertIs(other.ask(B, Change(0, 0)), True)
        self.assertIs(one.ask(C, Change(0, 0)), False)
        self.assertEqual(other.waiting(), [])
        self.assertEqual(one.free(B), [])
        self.assertEqual(one.free(A), [C])
        self.assertEqual(other.held(), [(B, ("change", 0, 0))])


class Model:
    """Points 13 to 17 over again, with cells as sets, and who holds noted by hand when it comes about."""

    SHARING = {("read", "read"), ("read", "mean"), ("mean", "read")}
    RANK = ["read", "mean", "change"]

    def __init__(self):
        self.rows = []

    def hinder(self, one, other):
        common = set(range(one[1], one[2] + 1)) & set(range(other[1], other[2] + 1))
        return bool(common) and (one[0], other[0]) not in self.SHARING

    def covers(self, one, other):
        cells = set(range(one[1], one[2] + 1))
        return set(range(other[1], other[2] + 1)) <= cells and self.RANK.index(one[0]) >= self.RANK.index(other[0])

    def ahead(self, row):
        rows = self.rows[:self.rows.index(row)]
        return [other["p"] for other in rows if other["p"] != row["p"] and self.hinder(other["lock"], row["lock"])]

    def ask(self, p, lock):
        own = [row for row in self.rows if row["p"] == p]
        if any(not row["held"] for row in own):
            return "refused"
        if any(self.covers(row["lock"], lock) for row in own):
            return True
        row = {"p": p, "lock": lock, "held": False}
        self.rows.append(row)
        row["held"] = not self.ahead(row)
        return row["held"]

    def free(self, p):
        self.rows = [row for row in self.rows if row["p"] != p]
        let_in = [row for row in self.rows if not row["held"] and not self.ahead(row)]
        for row in let_in:
            row["held"] = True
        return [row["p"] for row in let_in]

    def stands(self, p, lock):
        return not any(row["held"] and row["p"] != p and self.hinder(row["lock"], lock) for row in self.rows)

    def behind(self, p):
        for row in self.rows:
            if row["p"] == p and not row["held"]:
                return self.ahead(row)[0]
        return None

    def told(self, held):
        return [(row["p"], row["lock"]) for row in self.rows if row["held"] == held]


class ModelTest(unittest.TestCase):
    def answer(self, locks, deed):
        if len(deed) == 1:
            return locks.free(deed[0])
        try:
            return locks.ask(deed[0], lock_of(deed[1]))
        except Waiting:
            return "refused"

    def play(self, deeds, pacts, looks):
        locks = Locks()
        model = Model()
        for deed in deeds:
            told = model.free(deed[0]) if len(deed) == 1 else model.ask(deed[0], deed[1])
            self.assertEqual(self.answer(locks, deed), told, deeds)
            self.assertEqual((locks.held(), locks.waiting()), (model.told(True), model.told(False)), deeds)
        for p in pacts:
            self.assertEqual(locks.behind(p), model.behind(p), deeds)
            for lock in looks:
                self.assertIs(locks.stands(p, lock_of(lock)), model.stands(p, lock), (deeds, p, lock))

    def test_every_short_history(self):
        looks = [("read", 0, 1), ("mean", 1, 1), ("change", 0, 0)]
        deeds = [(p, lock) for p in "abc" for lock in looks] + [(p,) for p in "abc"]
        for length in range(5):
            for history in itertools.product(deeds, repeat=length):
                self.play(history, "abc", looks if length < 4 else looks[:1])

    def test_long_histories(self):
        chance = random.Random(6)
        pacts = [(leader, k) for leader in range(2) for k in range(3)]
        looks = [(kind, first, last) for kind in ("read", "mean", "change")
                 for first in range(4) for last in range(first, 4)]
        for _ in range(300):
            deeds = [(chance.choice(pacts), chance.choice(looks)) if chance.random() < 0.8 else (chance.choice(pacts),)
                     for _ in range(40)]
            self.play(deeds, pacts, looks)


if __name__ == "__main__":
    unittest.main()
