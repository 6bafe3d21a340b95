import itertools
import random
import unittest

from pactroom.stands import Stand

P = (0, 0)
Q = (0, 1)
R = (1, 0)
FAR = (10 ** 39, 10 ** 39)


def begin(p, text="held plus 1"):
    return ("begin", p, text)


def work(p):
    return ("work", p)


def ready(p, draft=(), houses=(0, 1), locks=()):
    return ("ready", p, houses, locks, draft)


def end(p, outcome, hands=()):
    return ("end", p, outcome, hands)


def walked(p, i, change=(), hand=0):
    return ("walked", p, i, change, hand)


def undone(p, i, change=()):
    return ("undone", p, i, change)


def void(p, i):
    return ("void", p, i)


def over(p):
    return ("over", p)


def stand_of(cells, *rows):
    stand = Stand(cells)
    for row in rows:
        stand.keep(row)
    return stand


class CellsTest(unittest.TestCase):
    def check(self, expected, *rows):
        stand = stand_of([10, 20, 30], *rows)
        self.assertEqual(stand.cells_told(), expected)
        self.assertIsInstance(stand.cells_told(), list)
        self.assertEqual([stand.cell_at(k) for k in range(len(expected))], expected)

    def test_the_first_cells(self):
        self.check([10, 20, 30])
        self.assertEqual(stand_of([-7]).cells_told(), [-7])
        self.assertEqual(Stand(cells=[1, 2]).cell_at(cell=1), 2)

    def test_done_with_a_ready_row_ahead(self):
        self.check([11, 20, -5], ready(P, ((0, 11), (2, -5))), end(P, "done"))
        self.check([11, 20, -5], ready(P, ((0, 11), (2, -5))), end(P, "done", (1, 2)))
        self.check([10, 99, 30], begin(P), work(P), ready(P, ((1, 99),)), end(P, "done"))

    def test_done_with_rows_between(self):
        self.check([10, 21, 32], ready(P, ((1, 21),)), ready(Q, ((2, 32),)), end(Q, "done"), over(R), end(P, "done"))

    def test_not_ahead_of_the_end_row(self):
        self.check([10, 20, 30], ready(P, ((0, 11),)))
        self.check([10, 20, 30], work(P), ready(P, ((0, 11),)), end(Q, "done"))

    def test_done_with_an_empty_draft(self):
        self.check([10, 20, 30], ready(P, ()), end(P, "done"))

    def test_done_without_a_ready_row(self):
        self.check([10, 20, 30], end(P, "done"))
        self.check([10, 20, 30], begin(P), work(P), end(P, "done", (5, 6)))
        self.check([10, 20, 30], ready(Q, ((0, 11),)), end(P, "done"))

    def test_done_with_the_ready_row_behind(self):
        self.check([10, 20, 30], end(P, "done"), ready(P, ((0, 11),)))

    def test_broken(self):
        self.check([10, 20, 30], ready(P, ((0, 11), (1, 21))), end(P, "broken"))
        self.check([10, 20, 30], begin(P), end(P, "broken"))

    def test_walked_with_one_change_and_with_none(self):
        self.check([10, 25, 30], walked(P, 0, ((1, 25),), 3))
        self.check([10, 20, 30], walked(P, 0, (), 3))
        self.check([10, 26, 30], walked(P, 0, ((1, 25),), 3), walked(P, 1, ((1, 26),), 3))
        self.check([10, 25, -1], walked(P, 0, ((1, 25),), 3), walked(Q, 0, ((2, -1),), 3))

    def test_undone_with_one_change_and_with_none(self):
        self.check([10, 20, 30], walked(P, 0, ((1, 25),), 3), undone(P, 0, ((1, 20),)))
        self.check([10, 25, 30], walked(P, 0, ((1, 25),), 3), undone(P, 1, ()))
        self.check([7, 20, 30], undone(P, 3, ((0, 7),)))

    def test_several_changes_in_a_row(self):
        self.check([1, 2, 3], walked(P, 0, ((0, 1), (1, 2), (2, 3)), 3))
        self.check([1, 2, 30], undone(P, 0, ((0, 1), (1, 2))))

    def test_no_other_row_changes_a_cell(self):
        self.check([10, 20, 30], begin(P), work(P), ready(P, ((0, 11),)), void(P, 0), over(P), end(Q, "broken"))
        self.check([10, 20, 30], begin(P, "walked give 0 0"), end(P, "done", (7, 8)), void(P, 1), over(P))

    def test_drafts_of_several_pacts_in_the_order_of_the_end_rows(self):
        rows = [ready(P, ((0, 1), (1, 1))), ready(Q, ((1, 2), (2, 2)))]
        self.check([1, 2, 2], *rows, end(P, "done"), end(Q, "done"))
        self.check([1, 1, 2], *rows, end(Q, "done"), end(P, "done"))
        self.check([10, 2, 2], *rows, end(P, "broken"), end(Q, "done"))

    def test_great_numbers(self):
        self.check([10 ** 399, 20, -10 ** 399], walked(P, 0, ((0, 10 ** 399),), 0), ready(Q, ((2, -10 ** 399),)),
                   end(Q, "done"))


class NewsTest(unittest.TestCase):
    def test_none_at_first(self):
        self.assertEqual(Stand([1]).news(), ())
        self.assertIsInstance(Stand([1]).news(), tuple)
        self.assertIs(Stand([1]).outcome(P), None)

    def test_end_rows_alone_tell_news(self):
        stand = stand_of([1], begin(P), work(P), ready(P), walked(Q, 0), undone(Q, 0), void(Q, 1), over(Q))
        self.assertEqual(stand.news(), ())
        self.assertEqual((stand.outcome(P), stand.outcome(Q)), (None, None))

    def test_both_outcomes(self):
        stand = stand_of([1], end(P, "done", (1, 2)), end(Q, "broken"))
        self.assertEqual(stand.news(), ((P, "done"), (Q, "broken")))
        self.assertEqual((stand.outcome(P), stand.outcome(p=Q), stand.outcome(R)), ("done", "broken", None))

    def test_sorted_by_the_leader_and_then_by_the_number(self):
        names = [(0, 2), (0, 9), (0, 10), (0, 100), (2, 0), (2, 11), (9, 1), (10, 0), (10, 10 ** 39), FAR]
        for seed in range(20):
            mixed = list(names)
            random.Random(seed).shuffle(mixed)
            # The outcomes alternate the other way round, so that sorting by them first would show.
            outcomes = {p: ("done", "broken")[k % 2] for k, p in enumerate(names)}
            stand = stand_of([1], *[end(p, outcomes[p]) for p in mixed])
            self.assertEqual(stand.news(), tuple((p, outcomes[p]) for p in names))

    def test_news_told_stay_as_they_were(self):
        stand = stand_of([1], end(Q, "done"))
        told = stand.news()
        stand.keep(end(P, "broken"))
        self.assertEqual(told, ((Q, "done"),))
        self.assertEqual(stand.news(), ((P, "broken"), (Q, "done")))


class BoundTest(unittest.TestCase):
    def test_none_at_first(self):
        self.assertEqual(Stand([1]).bound(), [])

    def test_bound_behind_a_ready_row_alone(self):
        row = ready(P, ((0, 1),), (0, 2), (("change", 0, 0),))
        self.assertEqual(stand_of([1], row).bound(), [row])
        self.assertEqual(stand_of([1], begin(P), work(P), row, over(P)).bound(), [row])
        for other in (begin(P), work(P), walked(P, 0), undone(P, 0), void(P, 0), over(P), end(P, "done"), end(P, "broken")):
            self.assertEqual(stand_of([1], other).bound(), [])

    def test_no_more_behind_an_end_row(self):
        for outcome in ("done", "broken"):
            self.assertEqual(stand_of([1], ready(P), end(P, outcome)).bound(), [])
            self.assertEqual(stand_of([1], end(P, outcome), ready(P)).bound(), [])
            self.assertEqual(stand_of([1], ready(P), end(Q, outcome)).bound(), [ready(P)])

    def test_in_the_order_kept(self):
        for order in itertools.permutations((P, Q, R, FAR)):
            stand = stand_of([1], *[ready(p) for p in order])
            self.assertEqual(stand.bound(), [ready(p) for p in order])
            stand.keep(end(Q, "broken"))
            self.assertEqual(stand.bound(), [ready(p) for p in order if p != Q])


class LostTest(unittest.TestCase):
    def test_none_at_first(self):
        self.assertEqual(Stand([1]).lost(), [])

    def test_behind_a_begin_row(self):
        self.assertEqual(stand_of([1], begin(P)).lost(), [P])
        self.assertEqual(stand_of([1], begin(P), work(P)).lost(), [P])
        # Begun here and bound here, it is lost still.
        self.assertEqual(stand_of([1], begin(P), work(P), ready(P)).lost(), [P])
        self.assertEqual(stand_of([1], begin(P), walked(P, 0), undone(P, 0), void(P, 1), over(P)).lost(), [P])

    def test_behind_a_work_row(self):
        self.assertEqual(stand_of([1], work(P)).lost(), [P])
        self.assertEqual(stand_of([1], work(P), ready(P)).lost(), [])
        self.assertEqual(stand_of([1], ready(P), work(P)).lost(), [])
        self.assertEqual(stand_of([1], work(P), ready(Q)).lost(), [P])

    def test_behind_an_end_row(self):
        for outcome in ("done", "broken"):
            self.assertEqual(stand_of([1], begin(P), end(P, outcome)).lost(), [])
            self.assertEqual(stand_of([1], work(P), end(P, outcome)).lost(), [])
            self.assertEqual(stand_of([1], begin(P), work(P), ready(P), end(P, outcome)).lost(), [])
            self.assertEqual(stand_of([1], end(P, outcome), begin(P), work(P)).lost(), [])
            self.assertEqual(stand_of([1], begin(P), work(Q), end(R, outcome)).lost(), [P, Q])

    def test_behind_other_rows(self):
        for row in (ready(P), walked(P, 0), undone(P, 0), void(P, 0), over(P), end(P, "done"), end(P, "broken")):
            self.assertEqual(stand_of([1], row).lost(), [])

    def test_sorted_and_each_once(self):
        for order in itertools.permutations(((0, 2), (0, 10), (2, 0), (10, 0))):
            rows = [begin(order[0]), work(order[1]), work(order[0]), begin(order[2]), work(order[3])]
            self.assertEqual(stand_of([1], *rows).lost(), [(0, 2), (0, 10), (2, 0), (10, 0)])


class BegunTest(unittest.TestCase):
    def test_none_at_first(self):
        self.assertEqual(Stand([1]).begun(), [])

    def test_in_the_order_kept(self):
        rows = [begin(Q, "held plus 1"), work(R), begin(FAR, "walked need 0"), begin(P, "held take 0 0")]
        stand = stand_of([1], *rows)
        told = [(Q, "held plus 1"), (FAR, "walked need 0"), (P, "held take 0 0")]
        self.assertEqual(stand.begun(), told)
        # They stay begun when they end.
        for row in (end(Q, "done"), end(P, "broken"), over(FAR)):
            stand.keep(row)
        self.assertEqual(stand.begun(), told)

    def test_begin_rows_alone(self):
        rows = [work(P), ready(P), end(P, "done"), walked(P, 0), undone(P, 0), void(P, 0), over(P)]
        self.assertEqual(stand_of([1], *rows).begun(), [])


class StepRowsTest(unittest.TestCase):
    def test_none_at_first(self):
        self.assertIs(Stand([1]).walked_at(P, 0), None)
        self.assertIs(stand_of([1], begin(P), work(P), ready(P), end(P, "done"), over(P)).walked_at(P, 0), None)

    def test_each_of_the_three_words(self):
        for row in (walked(P, 3, ((0, 5),), 7), undone(P, 3, ((0, 5),)), void(P, 3)):
            stand = stand_of([1], row)
            self.assertEqual(stand.walked_at(P, 3), row)
            self.assertEqual(stand.walked_at(p=P, i=3), row)
            for p, i in ((P, 2), (P, 4), (P, 0), (Q, 3), (R, 3), (FAR, 3)):
                self.assertIs(stand.walked_at(p, i), None)

    def test_the_last_one(self):
        rows = (walked(P, 3, (), 7), undone(P, 3, ()), void(P, 3))
        for order in itertools.permutations(rows):
            self.assertEqual(stand_of([1], *order).walked_at(P, 3), order[-1])
            self.assertEqual(stand_of([1], *order, walked(P, 4), walked(Q, 3), end(P, "broken")).walked_at(P, 3), order[-1])

    def test_over(self):
        stand = stand_of([1], begin(P), end(P, "done"), walked(P, 0), over(Q))
        self.assertIs(stand.is_over(P), False)
        self.assertIs(stand.is_over(Q), True)
        self.assertIs(stand.is_over(p=R), False)
        stand.keep(over(P))
        self.assertIs(stand.is_over(P), True)
        self.assertIs(Stand([1]).is_over(P), False)


class AskersOwnTest(unittest.TestCase):
    def test_lists_told_and_then_changed(self):
        rows = [begin(P), work(Q), ready(R, ((0, 9),)), ready(FAR), walked(P, 0, ((1, 8),), 0), over(P), end(FAR, "done")]
        stand = stand_of([1, 2], *rows)

        def all_told():
            return (stand.cells_told(), stand.bound(), stand.lost(), stand.begun(), stand.news(),
                    stand.walked_at(P, 0), stand.is_over(P))

        before = all_told()
        for told in (stand.cells_told(), stand.bound(), stand.lost(), stand.begun()):
            told.clear()
            told.append(((7, 7), "else"))
        self.assertEqual(all_told(), before)
        self.assertEqual(stand.cell_at(1), 8)
        stand.keep(end(R, "done"))
        self.assertEqual(stand.cells_told(), [9, 8])

    def test_the_first_cells_handed_in(self):
        cells = [1, 2]
        stand = Stand(cells)
        cells[0] = 99
        cells.append(3)
        self.assertEqual(stand.cells_told(), [1, 2])
        stand.keep(walked(P, 0, ((1, 8),), 0))
        self.assertEqual(cells, [99, 2, 3])
        self.assertEqual(stand.cells_told(), [1, 8])

    def test_two_stands_know_nothing_of_one_another(self):
        cells = [1, 2]
        one = Stand(cells)
        other = Stand(cells)
        for row in (begin(P), work(Q), ready(R), walked(P, 0, ((0, 7),), 0), over(P), end(Q, "done")):
            one.keep(row)
        self.assertEqual((other.cells_told(), other.news(), other.bound(), other.lost(), other.begun()),
                         ([1, 2], (), [], [], []))
        self.assertEqual((other.walked_at(P, 0), other.is_over(P), other.outcome(Q)), (None, False, None))
        self.assertEqual(cells, [1, 2])


class ModelTest(unittest.TestCase):
    """Beside a model that asks all rows kept each time, over books as houses write them."""

    def draw(self, chance):
        rows = []
        for p in (P, Q, R, (0, 10)):
            own = [begin(p)] * chance.randrange(2) + [work(p)] * chance.randrange(2)
            own += [ready(p, ((chance.randrange(3), chance.randrange(100)),))] * chance.randrange(2)
            own += [walked(p, 0, ((0, chance.randrange(100)),), 5)] * chance.randrange(2)
            own += [undone(p, 0, ((0, chance.randrange(100)),))] * chance.randrange(2)
            own += [void(p, 1)] * chance.randrange(2)
            own += [end(p, chance.choice(("done", "broken")))] * chance.randrange(2) + [over(p)] * chance.randrange(2)
            if chance.randrange(2):
                chance.shuffle(own)
            rows.append(own)
        mixed = []
        while any(rows):
            mixed.append(chance.choice([own for own in rows if own]).pop(0))
        return mixed

    def with_word(self, rows, p, *words):
        return [row for row in rows if row[0] in words and row[1] == p]

    def cells(self, rows):
        values = [10, 20, 30]
        for k, row in enumerate(rows):
            changes = row[3] if row[0] in ("walked", "undone") else ()
            if row[0] == "end" and row[2] == "done":
                changes = [change for one in self.with_word(rows[:k], row[1], "ready") for change in one[4]]
            for cell, value in changes:
                values[cell] = value
        return values

    def check(self, stand, rows):
        ended = {row[1]: row[2] for row in rows if row[0] == "end"}
        names = sorted({row[1] for row in rows})
        self.assertEqual(stand.cells_told(), self.cells(rows))
        self.assertEqual(stand.news(), tuple((p, ended[p]) for p in names if p in ended))
        self.assertEqual(stand.bound(), [row for row in rows if row[0] == "ready" and row[1] not in ended])
        self.assertEqual(stand.begun(), [row[1:] for row in rows if row[0] == "begin"])
        self.assertEqual(stand.lost(), [p for p in names if p not in ended and (
            self.with_word(rows, p, "begin")
            or self.with_word(rows, p, "work") and not self.with_word(rows, p, "ready"))])
        for p in names:
            self.assertEqual(stand.outcome(p), ended.get(p))
            self.assertIs(stand.is_over(p), bool(self.with_word(rows, p, "over")))
            for i in (0, 1):
                those = [row for row in self.with_word(rows, p, "walked", "undone", "void") if row[2] == i]
                self.assertEqual(stand.walked_at(p, i), those[-1] if those else None)

    def test_beside_the_model(self):
        for seed in range(300):
            rows = self.draw(random.Random(seed))
            stand = Stand([10, 20, 30])
            for k, row in enumerate(rows):
                stand.keep(row)
                self.check(stand, rows[:k + 1])


if __name__ == "__main__":
    unittest.main()
