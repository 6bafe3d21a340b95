import itertools
import random
import unittest

from pactroom.chases import chased, victim
from pactroom.kinds import Change, Mean, Read
from pactroom.locks import Locks

A = (0, 0)
B = (1, 0)
C = (0, 1)
D = (2, 5)
FAR = (10 ** 39, 10 ** 39)


def locks_of(*asks):
    locks = Locks()
    for p, lock in asks:
        locks.ask(p, lock)
    return locks


def line_of(*pacts):
    """The first of these pacts waits behind the second, the second behind the third, and so on."""
    locks = Locks()
    for at, p in reversed(list(enumerate(pacts))):
        locks.ask(p, Change(at, at))
        if at + 1 < len(pacts):
            locks.ask(p, Change(at + 1, at + 1))
    return locks


def ring_of(*pacts):
    """The same, and the last one behind the first."""
    locks = Locks()
    for at, p in enumerate(pacts):
        locks.ask(p, Change(at, at))
    for at, p in enumerate(pacts):
        locks.ask(p, Change((at + 1) % len(pacts), (at + 1) % len(pacts)))
    return locks


class VictimTest(unittest.TestCase):
    def path(self, *pacts):
        return tuple((p, house) for house, p in enumerate(pacts))

    def test_one_link(self):
        self.assertEqual(victim(self.path(B)), B)
        self.assertEqual(victim(path=self.path(FAR)), FAR)

    def test_the_greatest_k_whatever_the_leader(self):
        for order in itertools.permutations(((9, 0), (3, 1), (0, 2), (5, 1))):
            self.assertEqual(victim(self.path(*order)), (0, 2))
        self.assertEqual(victim(self.path((0, 10), (0, 9))), (0, 10))
        self.assertEqual(victim(self.path((10 ** 39, 0), (0, 1))), (0, 1))

    def test_the_greatest_leader_where_several_have_that_k(self):
        for order in itertools.permutations(((9, 0), (3, 4), (10, 4), (2, 4), (11, 3))):
            self.assertEqual(victim(self.path(*order)), (10, 4))

    def test_the_houses_do_not_count(self):
        self.assertEqual(victim((((0, 1), 9), ((1, 1), 0))), (1, 1))
        self.assertEqual(victim((((0, 1), 0), ((1, 0), 9))), (0, 1))

    def test_a_pact_in_two_links(self):
        self.assertEqual(victim(((A, 0), (C, 1), (A, 2))), C)


class ChasedTest(unittest.TestCase):
    def test_a_pact_that_is_not_there(self):
        self.assertEqual(chased(Locks(), 3, A, ()), ("none", None, ()))
        path = ((B, 1), (C, 2))
        self.assertEqual(chased(Locks(), 3, A, path), ("none", None, path))

    def test_a_pact_that_holds_and_does_not_wait(self):
        locks = locks_of((A, Change(0, 0)), (B, Change(1, 1)), (C, Change(0, 0)))
        self.assertEqual(chased(locks, 3, A, ()), ("none", None, ()))
        self.assertEqual(chased(locks, 3, B, ((A, 1),)), ("none", None, ((A, 1),)))

    def test_not_waiting_though_the_path_begins_with_it(self):
        locks = locks_of((A, Change(0, 0)))
        self.assertEqual(chased(locks, 3, A, ((A, 1), (B, 2))), ("none", None, ((A, 1), (B, 2))))

    def test_seek_with_no_one_and_several_links_ahead(self):
        locks = locks_of((A, Change(0, 0)), (B, Change(0, 0)))
        self.assertEqual(chased(locks, 3, B, ()), ("seek", A, ((B, 3),)))
        self.assertEqual(chased(locks, 3, B, ((C, 1),)), ("seek", A, ((C, 1), (B, 3))))
        self.assertEqual(chased(locks, 3, B, ((C, 1), (D, 0))), ("seek", A, ((C, 1), (D, 0), (B, 3))))

    def test_arguments_by_their_names(self):
        locks = locks_of((A, Change(0, 0)), (B, Change(0, 0)))
        self.assertEqual(chased(locks=locks, home=3, p=B, path=()), ("seek", A, ((B, 3),)))

    def test_on_at_this_house_where_the_one_ahead_waits_here_too(self):
        self.assertEqual(chased(line_of(A, B, C), 2, A, ()), ("seek", C, ((A, 2), (B, 2))))
        self.assertEqual(chased(line_of(A, B, C, D), 2, A, ()), ("seek", D, ((A, 2), (B, 2), (C, 2))))
        self.assertEqual(chased(line_of(A, B, C), 2, A, ((D, 0),)), ("seek", C, ((D, 0), (A, 2), (B, 2))))
        self.assertEqual(chased(line_of(A, B, C), 2, B, ()), ("seek", C, ((B, 2),)))

    def test_a_ring_of_two_at_one_house(self):
        locks = ring_of(A, B)
        self.assertEqual(chased(locks, 2, A, ()), ("ring", B, ((A, 2), (B, 2))))
        self.assertEqual(chased(locks, 2, B, ()), ("ring", B, ((B, 2), (A, 2))))

    def test_a_ring_of_two_by_reads_that_become_changes(self):
        locks = locks_of((A, Read(0, 5)), (B, Change(3, 3)), (A, Change(3, 3)))
        self.assertEqual(chased(locks, 0, B, ()), ("ring", B, ((B, 0), (A, 0))))
        locks = locks_of((A, Mean(0, 0)), (C, Read(0, 0)), (C, Mean(0, 0)), (A, Change(0, 0)))
        self.assertEqual(chased(locks, 0, A, ()), ("ring", C, ((A, 0), (C, 0))))

    def test_a_ring_of_two_over_two_houses(self):
        here = locks_of((A, Change(0, 0)), (B, Change(0, 0)))
        there = locks_of((B, Change(0, 0)), (A, Change(0, 0)))
        word, b, path = chased(here, 0, B, ())
        self.assertEqual((word, b), ("seek", A))
        self.assertEqual(chased(there, 1, A, path), ("ring", B, ((B, 0), (A, 1))))

    def test_a_ring_of_three_at_one_house(self):
        locks = ring_of(A, B, C)
        self.assertEqual(chased(locks, 7, A, ()), ("ring", C, ((A, 7), (B, 7), (C, 7))))
        self.assertEqual(chased(locks, 7, C, ()), ("ring", C, ((C, 7), (A, 7), (B, 7))))

    def test_a_ring_of_three_over_three_and_over_two_houses(self):
        waits = locks_of((B, Change(0, 0)), (A, Change(0, 0)))
        path = chased(waits, 0, A, ())[2]
        waits = locks_of((C, Change(0, 0)), (B, Change(0, 0)))
        path = chased(waits, 1, B, path)[2]
        waits = locks_of((A, Change(0, 0)), (C, Change(0, 0)))
        self.assertEqual(chased(waits, 2, C, path), ("ring", C, ((A, 0), (B, 1), (C, 2))))
        # Two of them at one house.
        waits = line_of(B, C, A)
        self.assertEqual(chased(waits, 1, B, ((A, 0),)), ("ring", C, ((A, 0), (B, 1), (C, 1))))

    def test_behind_a_pact_of_another_link(self):
        waits = locks_of((B, Change(0, 0)), (C, Change(0, 0)))
        path = ((A, 0), (B, 1))
        self.assertEqual(chased(waits, 2, C, path), ("none", None, path + ((C, 2),)))
        # Also where that one waits here too: then it is not chased on.
        waits = line_of(C, B, D)
        self.assertEqual(chased(waits, 2, C, path), ("none", None, path + ((C, 2),)))

    def test_behind_a_pact_of_another_link_of_this_very_chase(self):
        # A waits behind B, while B and C wait behind one another.
        locks = locks_of((B, Change(0, 0)), (C, Change(1, 1)), (A, Change(0, 0)), (B, Change(1, 1)), (C, Change(0, 0)))
        self.assertEqual(chased(locks, 0, A, ()), ("none", None, ((A, 0), (B, 0), (C, 0))))

    def test_in_a_ring_that_does_not_begin_with_the_path(self):
        locks = ring_of(A, B)
        self.assertEqual(chased(locks, 2, A, ((D, 1),)), ("none", None, ((D, 1), (A, 2), (B, 2))))

    def test_the_link_is_put_on_though_the_pact_is_in_the_path_already(self):
        locks = locks_of((D, Change(0, 0)), (B, Change(0, 0)))
        path = ((A, 0), (B, 1))
        self.assertEqual(chased(locks, 2, B, path), ("seek", D, path + ((B, 2),)))
        locks = locks_of((A, Change(0, 0)), (B, Change(0, 0)))
        self.assertEqual(chased(locks, 2, B, path), ("ring", B, path + ((B, 2),)))

    def test_behind_the_foremost_that_hinders(self):
        locks = locks_of((A, Read(0, 3)), (B, Read(0, 3)), (C, Change(2, 2)))
        self.assertEqual(chased(locks, 0, C, ()), ("seek", A, ((C, 0),)))
        locks.ask(B, Change(2, 2))
        self.assertEqual(chased(locks, 0, B, ()), ("seek", A, ((B, 0),)))
        # C is behind A and B, and B is behind A and C: only the foremost counts, so no ring is seen yet.
        locks.free(A)
        self.assertEqual(chased(locks, 0, B, ()), ("ring", C, ((B, 0), (C, 0))))

    def test_the_victim_of_a_ring_is_told_whoever_is_first(self):
        for order in itertools.permutations((A, C, FAR, D)):
            self.assertEqual(chased(ring_of(*order), 1, order[0], ())[1], FAR)

    def test_nothing_is_changed(self):
        locks = ring_of(A, B, C)
        before = (locks.held(), locks.waiting())
        path = ()
        chased(locks, 7, A, path)
        self.assertEqual((path, (locks.held(), locks.waiting())), ((), before))
        self.assertEqual(chased(locks, 7, A, ())[2], ((A, 7), (B, 7), (C, 7)))


class ModelTest(unittest.TestCase):
    """Beside a telling that follows the document's words one call a link."""

    def told(self, locks, home, p, path):
        if p not in [q for q, lock in locks.waiting()]:
            return ("none", None, path)
        path = path + ((p, home),)
        b = locks.behind(p)
        if b == path[0][0]:
            return ("ring", sorted([q for q, house in path], key=lambda q: (q[1], q[0]))[-1], path)
        if b in [q for q, house in path[1:]]:
            return ("none", None, path)
        if b in [q for q, lock in locks.waiting()]:
            return self.told(locks, home, b, path)
        return ("seek", b, path)

    def test_drawn_locks(self):
        words = {"none": 0, "ring": 0, "seek": 0}
        pacts = [A, B, C, D, FAR]
        for seed in range(2000):
            chance = random.Random(seed)
            locks = Locks()
            for k in range(chance.randrange(12)):
                p = chance.choice(pacts)
                low = chance.randrange(4)
                if locks.behind(p) is None:
                    locks.ask(p, chance.choice((Read, Mean, Change))(low, chance.randrange(low, 4)))
            path = tuple((p, chance.randrange(3)) for p in chance.sample(pacts, chance.choice((0, 0, 1, 2))))
            for p in pacts:
                told = chased(locks, 3, p, path)
                self.assertEqual(told, self.told(locks, 3, p, path))
                if told[2] != path:
                    words[told[0]] += 1
        self.assertGreater(min(words.values()), 100)


if __name__ == "__main__":
    unittest.main()
