"""What the program promises of every history, asked of drawn ones, with falls, fallings and letters that come again."""

import random
import unittest

from drawn import Drawn, drawn
from model import house_of
from pactroom.calm import calm
from pactroom.doubts import doubt
from pactroom.orders import paper, played
from roads import Draw

SEEDS = range(300)


def steps_of(text):
    return text.partition(" ")[2].split("; ")


def rows_about(story, word, p):
    return [row for h, row in story if row[:2] == (word, p)]


class WholeCase(unittest.TestCase):
    def check(self, one):
        story = one.room.story()
        texts = {row[1]: row[2] for h, row in story if row[0] == "begin"}
        self.check_outcomes(one, story, texts)
        for p in texts:
            if texts[p].startswith("walked "):
                self.check_walked(story, p, steps_of(texts[p]))
        return played(one.first, paper(story))

    def check_outcomes(self, one, story, texts):
        known = {}
        for at, (h, row) in enumerate(story):
            if row[0] == "end":
                self.assertEqual(known.setdefault(row[1], row[2]), row[2])
                if row[2] == "done" and texts[row[1]].startswith("held "):
                    houses = {house_of(text) for text in steps_of(texts[row[1]])} - {None}
                    self.assertEqual({there for there, other in story[:at] if other[:2] == ("ready", row[1])}, houses)
        for h in range(len(one.first)):
            # Nothing is written twice in one book.
            rows = [row[:3] if row[0] in ("walked", "undone", "void") else row[:2] for row in one.room.book(h)]
            self.assertEqual(len(rows), len(set(rows)))

    def check_walked(self, story, p, steps):
        places = [k for k, text in enumerate(steps) if house_of(text) is not None]
        walked = [row[2] for row in rows_about(story, "walked", p)]
        undone = [row[2] for row in rows_about(story, "undone", p)]
        void = [row[2] for row in rows_about(story, "void", p)]
        broken = ("end", p, "broken", ()) in [row for h, row in story]
        self.assertEqual(walked, places[:len(walked)])
        self.assertEqual(undone, walked[::-1][:len(undone)])
        self.assertFalse(any(steps[k].startswith("give ") for k in undone))
        self.assertEqual(void, sorted(void, reverse=True))
        self.assertFalse(set(void) & set(walked))
        if not broken:
            self.assertEqual((undone, void), ([], []))
        for h, row in story:
            if row[0] in ("walked", "undone", "void") and row[1] == p:
                self.assertEqual(h, house_of(steps[row[2]]))

    def check_calm(self, one):
        room = one.room
        done = calm(room)
        self.assertIn(len([deed for deed in done if deed == ("turn", 0)]), (1, 2, 3, 4, 5, 6))
        story = room.story()
        self.assertEqual(self.check(one), [room.cells_of(h) for h in range(len(one.first))])
        for h, row in story:
            if row[0] in ("begin", "work", "ready"):
                self.assertIsNotNone(room.knows(h, row[1]))
            if row[0] == "begin" and row[2].startswith("walked "):
                self.assertTrue(rows_about(story, "over", row[1]))
                self.check_all_undone(story, row[1], room.knows(h, row[1]), steps_of(row[2]))
        for h in range(len(one.first)):
            self.assertEqual(room.state(h)[3:], ((), ()))

    def check_all_undone(self, story, p, outcome, steps):
        walked = [row[2] for row in rows_about(story, "walked", p)]
        undone = [row[2] for row in rows_about(story, "undone", p)]
        places = [k for k, text in enumerate(steps) if house_of(text) is not None]
        self.assertEqual(undone, [] if outcome == "done" else walked[::-1])
        if outcome == "done":
            self.assertEqual(walked, places)


class WholeTest(WholeCase):
    def test_one_outcome_one_behind_the_other_undone_in_order(self):
        for seed in SEEDS:
            self.check(drawn(seed))

    def test_at_each_deed(self):
        for seed in range(10):
            one = drawn(seed, (0,))
            draw = Draw(seed, one)
            for k in range(60):
                one.do(draw.deed())
                self.check(one)

    def test_behind_a_calm(self):
        for seed in SEEDS:
            self.check_calm(drawn(seed))

    def test_on_behind_a_calm(self):
        """A calm room goes on as any other."""
        for seed in range(40):
            one = drawn(seed, (20,))
            calm(one.room)
            one.sent = [(name[0], to, letter, name) for name, to, letter in one.room.letters()]
            draw = Draw(seed + 1, one)
            for k in range(60):
                one.do(draw.deed())
            self.check(one)
            self.check_calm(one)

    def test_who_can_know(self):
        words = {}
        for seed in range(120):
            one = drawn(seed, (20, 40, 80))
            chance = random.Random(seed)
            for h, row in one.room.story():
                if row[0] == "ready" and one.room.knows(h, row[1]) is None:
                    group = [k for k in range(len(one.first)) if k == h or chance.randrange(2)]
                    told = doubt(one.first, one.deeds, group, row[1])
                    words[told[0]] = words.get(told[0], 0) + 1
                    if told[0] == "twins":
                        self.check_both(one, told[1:], row[1])
                    else:
                        self.check_known(one, told[1], h, row[1])
        self.assertEqual(sorted(words), ["twins", "way"])

    def check_both(self, one, twins, p):
        """Twins are histories themselves: all that is promised of every one holds of them."""
        for deeds, outcome in zip(twins, ("broken", "done")):
            other = self.done(one.first, deeds)
            self.check(other)
            self.check_calm(other)
            self.assertEqual(other.room.knows(p[0], p), outcome)

    def check_known(self, one, way, h, p):
        other = self.done(one.first, one.deeds + way)
        self.check(other)
        self.assertIsNotNone(other.room.knows(h, p))
        self.check_calm(other)

    def done(self, cells, deeds):
        one = Drawn(cells)
        for deed in deeds:
            one.room.do(deed)
        return one


if __name__ == "__main__":
    unittest.main()
