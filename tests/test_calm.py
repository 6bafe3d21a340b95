import random
import unittest

from drawn import drawn
from pactroom.calm import calm
from pactroom.room import Room, room_behind
from roads import draw_text

P = (0, 0)


def rounds_of(deeds):
    return len([deed for deed in deeds if deed == ("turn", 0)])


class CalmCase(unittest.TestCase):
    def behind_calm(self, cells, deeds):
        """A room behind these deeds and a calm, and the calm's deeds; all is asked that holds then."""
        room = room_behind(cells, deeds)
        done = calm(room)
        self.check_deeds(room_behind(cells, deeds), done, room)
        self.check_behind(room)
        return room, done

    def check_deeds(self, room, done, after):
        """The deeds are those of a calm, done in this room one behind the other; they lead to the other one."""
        many = len(room.houses)
        todo = list(done)
        for h in range(many):
            if not room.standing(h):
                self.assertEqual(todo.pop(0), ("rise", h))
                self.assertFalse(any(one[0] == "send" for one in room.do(("rise", h))))
        rounds = 0
        while todo:
            rounds += 1
            start = at = len(room.letters())
            for h in range(many):
                self.assertEqual(todo.pop(0), ("turn", h))
                room.do(("turn", h))
            while at < len(room.letters()):
                name, to, letter = room.letters()[at]
                self.assertEqual(todo.pop(0), ("come", to, name))
                room.do(("come", to, name))
                at += 1
            # The first round without a letter is the last one.
            self.assertEqual(not todo, at == start)
        self.assertIn(rounds, (1, 2, 3, 4, 5, 6))
        for h in range(many):
            self.assertEqual(room.state(h), after.state(h))
        self.assertEqual((room.story(), room.letters()), (after.story(), after.letters()))

    def check_behind(self, room):
        for h in range(len(room.houses)):
            self.assertTrue(room.standing(h))
            self.assertEqual(room.state(h)[3:], ((), ()))
            for row in room.book(h):
                if row[0] in ("begin", "work", "ready"):
                    self.assertIsNotNone(room.knows(h, row[1]))
                if row[0] == "begin" and row[2].startswith("walked "):
                    self.assertIn(("over", row[1]), room.book(h))
        before = room.story()
        self.assertEqual(calm(room), [("turn", h) for h in range(len(room.houses))])
        self.assertEqual(room.story(), before)


class SmallTest(CalmCase):
    def test_a_new_room(self):
        self.assertEqual(self.behind_calm([[1], [2], [3]], [])[1], [("turn", 0), ("turn", 1), ("turn", 2)])
        self.assertEqual(self.behind_calm([[1]], [])[1], [("turn", 0)])

    def test_fallen_houses_rise_first(self):
        deeds = [("fall", 2), ("fall", 0), ("begin", 1, "held plus 1")]
        done = self.behind_calm([[1], [2], [3]], deeds)[1]
        self.assertEqual(done, [("rise", 0), ("rise", 2), ("turn", 0), ("turn", 1), ("turn", 2)])

    def test_a_pact_just_begun(self):
        room, done = self.behind_calm([[1], [2]], [("begin", 0, "held take 0 0; add 1 0 5")])
        self.assertEqual([room.knows(h, P) for h in (0, 1)], ["done", "done"])
        self.assertEqual(room.cells_of(1), [7])
        self.assertEqual(rounds_of(done), 2)
        # The letter of the begin itself was sent ahead of the round: it does not come.
        self.assertNotIn(("come", 0, (0, 0, 0)), done)
        self.assertEqual(done[:3], [("turn", 0), ("turn", 1), ("come", 0, (0, 1, 0))])

    def test_letters_come_in_the_order_sent(self):
        deeds = [("begin", 1, "held add 0 0 1"), ("begin", 0, "held add 1 0 1")]
        done = self.behind_calm([[1], [2]], deeds)[1]
        self.assertEqual(done[2:6], [("come", 1, (0, 1, 0)), ("come", 0, (1, 1, 0)), ("come", 0, (1, 2, 0)),
                                     ("come", 1, (0, 2, 0))])

    def test_a_round_of_one_letter(self):
        deeds = [("begin", 0, "held take 1 0"), ("turn", 0), ("turn", 0), ("turn", 0)]
        room, done = self.behind_calm([[1], [2]], deeds)
        self.assertEqual(done, [("turn", 0), ("turn", 1), ("come", 1, (0, 4, 0)), ("turn", 0), ("turn", 1)])
        self.assertEqual(room.book(1), [("end", P, "broken", ())])

    def test_a_leader_that_fell(self):
        deeds = [("begin", 0, "held add 1 0 5; take 0 0"), ("come", 1, (0, 0, 0)), ("fall", 0)]
        room, done = self.behind_calm([[1], [2]], deeds)
        self.assertEqual([room.knows(h, P) for h in (0, 1)], ["broken", "broken"])
        self.assertEqual(room.cells_of(1), [2])
        self.assertEqual(done[:3], [("rise", 0), ("turn", 0), ("turn", 1)])

    def test_bound_houses(self):
        deeds = [("begin", 0, "held add 1 0 5; add 2 0 5"), ("come", 1, (0, 0, 0)), ("come", 0, (1, 0, 0)),
                 ("come", 2, (0, 1, 0)), ("come", 0, (2, 0, 0)), ("come", 1, (0, 2, 0))]
        # The ask of the bound house finds another one that is not bound yet, ahead of the leader's ready or behind it.
        room, done = self.behind_calm([[1], [2], [3]], deeds)
        outcomes = [room.knows(h, P) for h in (0, 1, 2)]
        self.assertEqual(outcomes, ["done"] * 3)
        self.assertEqual([room.cells_of(h) for h in (1, 2)], [[7], [8]])
        # A bound house of a lower number than the leader has its turn, and its ask, first: the pact is broken off.
        other = [("begin", 2, "held add 0 0 5; add 1 0 5"), ("come", 0, (2, 0, 0)), ("come", 2, (0, 0, 0)),
                 ("come", 1, (2, 1, 0)), ("come", 2, (1, 0, 0)), ("come", 0, (2, 2, 0))]
        room, done = self.behind_calm([[1], [2], [3]], other)
        self.assertEqual([room.knows(h, (2, 0)) for h in (0, 1, 2)], ["broken"] * 3)
        room, done = self.behind_calm([[1], [2], [3]], other + [("fall", 1), ("fall", 0)])
        self.assertEqual([room.knows(h, (2, 0)) for h in (0, 1, 2)], ["broken"] * 3)

    def test_walked_pacts(self):
        deeds = [("begin", 0, "walked add 1 0 5; take 2 0; give 1 0"), ("begin", 1, "walked add 0 0 1; need 5"),
                 ("come", 1, (0, 0, 0)), ("come", 0, (1, 0, 0)), ("fall", 1)]
        room, done = self.behind_calm([[1], [2], [3]], deeds)
        self.assertEqual((room.knows(0, (0, 0)), room.knows(1, (1, 0))), ("done", "broken"))
        self.assertEqual([room.cells_of(h) for h in range(3)], [[1], [3], [3]])

    def test_pacts_that_wait_in_a_ring(self):
        deeds = [("begin", 0, "held add 0 0 1; add 1 0 1"), ("begin", 1, "held add 1 0 1; add 0 0 1"),
                 ("come", 0, (0, 0, 0)), ("come", 1, (1, 0, 0)), ("come", 0, (0, 1, 0)), ("come", 1, (1, 1, 0)),
                 ("come", 1, (0, 2, 0)), ("come", 0, (1, 2, 0))]
        room, done = self.behind_calm([[1], [2]], deeds)
        self.assertEqual((room.knows(0, (0, 0)), room.knows(1, (1, 0))), ("done", "broken"))
        self.assertEqual([room.cells_of(0), room.cells_of(1)], [[2], [3]])

    def test_six_rounds(self):
        """Rings form anew in each round, till all patience is at its end; a walked pact waits for their locks."""
        texts = [(0, "walked give 1 0; add 0 1 1"), (0, "held give 0 1; add 2 0 1; add 0 2 1"),
                 (0, "walked take 2 0; add 0 2 1; add 1 0 1"), (2, "held add 0 0 1; add 1 0 1; add 1 0 1"),
                 (1, "held add 2 0 1; add 0 1 1; add 0 2 1"), (1, "walked add 2 0 1; add 0 1 1; add 0 2 1"),
                 (2, "held add 2 0 1; add 1 0 1"), (0, "walked add 1 0 1; add 2 0 1; add 0 2 1; add 1 0 1"),
                 (0, "held add 0 0 1; mean 0 2; add 0 0 1; add 1 0 1; add 2 0 1; give 2 0"),
                 (0, "held add 1 0 1; add 2 0 1; add 0 0 1; give 1 0")]
        deeds = [("begin", h, text) for h, text in texts]
        self.assertEqual(rounds_of(self.behind_calm([[5, 5, 5], [5], [5]], deeds)[1]), 6)


class DrawnTest(CalmCase):
    def test_drawn_histories(self):
        for seed in range(150):
            one = drawn(seed)
            self.behind_calm(one.first, one.deeds)

    def test_many_pacts_on_few_cells(self):
        counts = {}
        for seed in range(60):
            chance = random.Random(seed)
            cells = [[5] * chance.choice((1, 2)) for h in range(chance.choice((1, 2, 3, 5)))]
            deeds = [("begin", chance.randrange(len(cells)), draw_text(chance, cells)) for k in range(20)]
            rounds = rounds_of(self.behind_calm(cells, deeds)[1])
            counts[rounds] = counts.get(rounds, 0) + 1
        self.assertGreater(len(counts), 2)


if __name__ == "__main__":
    unittest.main()
