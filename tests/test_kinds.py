import itertools
import unittest

from pactroom import kinds
from pactroom.kinds import Change, Lock, Mean, Read, lock_of

KINDS = ["read", "mean", "change"]
BIG = 10 ** 59


def made(kind, first, last):
    return getattr(kinds, kind.capitalize())(first, last)


def stretches(most):
    return [(first, last) for first in range(most) for last in range(first, most)]


def cells(stretch):
    return set(range(stretch[0], stretch[1] + 1))


class MakingTest(unittest.TestCase):
    def check(self, lock, kind, first, last):
        self.assertIsInstance(lock, Lock)
        self.assertIsInstance(lock, getattr(kinds, kind.capitalize()))
        self.assertEqual((lock.first, lock.last), (first, last))
        told = lock.told()
        self.assertIsInstance(told, tuple)
        self.assertEqual(told, (kind, first, last))

    def test_the_examples_of_the_document(self):
        self.assertEqual(Read(2, 5).told(), ("read", 2, 5))
        self.assertEqual(Mean(2, 2).told(), ("mean", 2, 2))
        self.assertEqual(Change(0, 0).told(), ("change", 0, 0))

    def test_made_by_class_and_by_lock_of(self):
        for kind in KINDS:
            for first, last in stretches(4) + [(0, BIG), (BIG, BIG), (BIG, BIG * 10 - 1)]:
                self.check(made(kind, first, last), kind, first, last)
                self.check(lock_of((kind, first, last)), kind, first, last)
                self.check(lock_of(made(kind, first, last).told()), kind, first, last)

    def test_made_by_the_names_of_the_arguments(self):
        for kind in KINDS:
            self.check(getattr(kinds, kind.capitalize())(first=1, last=3), kind, 1, 3)
            self.check(lock_of(told=(kind, 1, 3)), kind, 1, 3)

    def test_a_lock_without_a_kind_has_its_fields(self):
        lock = Lock(3, 4)
        self.assertEqual((lock.first, lock.last), (3, 4))

    def test_numbers_somewhat_beyond_the_bound_are_not_refused(self):
        self.check(Read(10 ** 60, 10 ** 61), "read", 10 ** 60, 10 ** 61)
        self.check(lock_of(("change", 10 ** 60, 10 ** 60)), "change", 10 ** 60, 10 ** 60)

    def test_no_kind_stands_under_another(self):
        for kind, other in itertools.product([Read, Mean, Change], repeat=2):
            self.assertTrue(issubclass(kind, Lock))
            self.assertEqual(issubclass(kind, other), kind == other)
            self.assertFalse(issubclass(Lock, kind))

    def test_each_lock_has_its_own_stretch(self):
        one = Read(0, 1)
        two = Read(2, 3)
        self.assertEqual((one.told(), two.told()), (("read", 0, 1), ("read", 2, 3)))


class BesideTest(unittest.TestCase):
    SHARING = {("read", "read"), ("read", "mean"), ("mean", "read")}

    def check(self, one, other, answer):
        self.assertIs(one.beside(other), answer, (one.told(), other.told()))
        self.assertIs(other.beside(one), answer, (other.told(), one.told()))

    def test_each_pair_of_kinds_on_one_cell(self):
        self.check(Read(3, 3), Read(3, 3), True)
        self.check(Read(3, 3), Mean(3, 3), True)
        self.check(Read(3, 3), Change(3, 3), False)
        self.check(Mean(3, 3), Mean(3, 3), False)
        self.check(Mean(3, 3), Change(3, 3), False)
        self.check(Change(3, 3), Change(3, 3), False)

    def test_one_cell_in_common(self):
        for kind, other in itertools.product(KINDS, KINDS):
            self.check(made(kind, 0, 4), made(other, 4, 9), (kind, other) in self.SHARING)

    def test_neighbours(self):
        for kind, other in itertools.product(KINDS, KINDS):
            self.check(made(kind, 0, 4), made(other, 5, 9), True)

    def test_one_within_the_other(self):
        for kind, other in itertools.product(KINDS, KINDS):
            for first, last in ((0, 9), (0, 3), (6, 9), (4, 5), (0, 0), (9, 9)):
                self.check(made(kind, 0, 9), made(other, first, last), (kind, other) in self.SHARING)

    def test_big_stretches(self):
        for kind, other in itertools.product(KINDS, KINDS):
            sharing = (kind, other) in self.SHARING
            self.check(made(kind, 0, BIG), made(other, BIG, BIG * 9), sharing)
            self.check(made(kind, 0, BIG), made(other, BIG + 1, BIG * 9), True)
            self.check(made(kind, 0, BIG * 9), made(other, BIG, BIG), sharing)

    def test_every_pair_of_small_stretches(self):
        for kind, other in itertools.product(KINDS, KINDS):
            for one, two in itertools.product(stretches(4), repeat=2):
                answer = not cells(one) & cells(two) or (kind, other) in self.SHARING
                self.check(made(kind, *one), made(other, *two), answer)

    def test_beside_a_lock_told_again(self):
        self.check(lock_of(("mean", 0, 3)), Mean(3, 5), False)
        self.check(lock_of(("mean", 0, 3)), Read(3, 5), True)


class CoverTest(unittest.TestCase):
    def check(self, one, other, answer):
        self.assertIs(one.covers(other), answer, (one.told(), other.told()))

    def test_a_greater_the_same_and_a_lesser_kind(self):
        for rank, kind in enumerate(KINDS):
            for place, other in enumerate(KINDS):
                self.check(made(kind, 2, 5), made(other, 2, 5), rank >= place)
                self.check(made(kind, 2, 5), made(other, 3, 4), rank >= place)

    def test_the_ends_of_the_stretch(self):
        lock = Change(2, 5)
        for first, last, answer in ((2, 2, True), (5, 5, True), (2, 4, True), (3, 5, True), (1, 5, False),
                                    (2, 6, False), (1, 6, False), (1, 1, False), (6, 6, False), (0, 2, False),
                                    (5, 7, False)):
            self.check(lock, Read(first, last), answer)
            self.check(lock, Change(first, last), answer)

    def test_big_stretches(self):
        self.check(Mean(BIG, BIG * 9), Read(BIG, BIG * 9), True)
        self.check(Mean(BIG, BIG * 9), Read(BIG - 1, BIG * 9), False)
        self.check(Mean(BIG, BIG * 9), Read(BIG, BIG * 9 + 1), False)
        self.check(Mean(BIG, BIG * 9), Change(BIG, BIG), False)

    def test_every_pair_of_small_stretches(self):
        for kind, other in itertools.product(KINDS, KINDS):
            greater = KINDS.index(kind) >= KINDS.index(other)
            for one, two in itertools.product(stretches(4), repeat=2):
                self.check(made(kind, *one), made(other, *two), greater and cells(two) <= cells(one))

    def test_nothing_asked_is_changed(self):
        one = Change(0, 3)
        other = Read(1, 2)
        one.beside(other)
        one.covers(other)
        self.assertEqual((one.told(), other.told()), (("change", 0, 3), ("read", 1, 2)))


if __name__ == "__main__":
    unittest.main()
