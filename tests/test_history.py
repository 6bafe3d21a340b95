import random
import unittest

from model import Model, do_step, house_of
from roads import Draw, Roads, draw_cells, draw_text


def history(seed):
    """Roads behind a drawn history."""
    chance = random.Random(seed)
    roads = Roads(draw_cells(chance))
    draw = Draw(seed, roads)
    for k in range(chance.choice((20, 60, 120, 300))):
        roads.do(draw.deed())
    return roads


def texts_of(story):
    return {row[1]: row[2] for home, row in story if row[0] == "begin"}


def steps_of(text):
    return text.partition(" ")[2].split("; ")


class Paper:
    """Plays the entries of a story one behind the other, each on what the ones ahead left."""

    def __init__(self, test, cells, story):
        self.test = test
        self.cells = [list(values) for values in cells]
        self.texts = texts_of(story)
        self.walks = {p: [] for p in self.texts}
        self.undone = {p: [] for p in self.texts}
        for home, row in story:
            if row[0] == "end" and row[2] == "done" and home == row[1][0] and self.texts[row[1]].startswith("held"):
                self.pact(row[1], row[3])
            elif row[0] == "walked":
                self.step(home, row)
            elif row[0] == "undone":
                self.undo(home, row)

    def done(self, text, hand):
        home = house_of(text)
        behind, changes = do_step(text, hand, None if home is None else self.cells[home].__getitem__)
        if text.startswith("need "):
            self.test.assertGreaterEqual(hand, int(text[5:]))
        for cell, value in changes.items():
            self.cells[home][cell] = value
        return behind, tuple(changes.items())

    def pact(self, p, hands):
        hand, played = 0, []
        for text in steps_of(self.texts[p]):
            hand = self.done(text, hand)[0]
            played.append(hand)
        self.test.assertEqual(hands, tuple(played))

    def step(self, home, row):
        p, i = row[1], row[2]
        steps = steps_of(self.texts[p])
        self.test.assertEqual(self.undone[p], [])
        at, hand = self.walks[p][-1] if self.walks[p] else (-1, 0)
        between = steps[at + 1:i]
        self.test.assertGreater(i, at)
        self.test.assertEqual([text for text in between if house_of(text) is not None], [])
        for text in between:
            hand = self.done(text, hand)[0]
        self.test.assertEqual(house_of(steps[i]), home)
        behind, changes = self.done(steps[i], hand)
        self.test.assertEqual(row[3:], (changes, behind))
        self.walks[p].append((i, behind))

    def undo(self, home, row):
        p, i = row[1], row[2]
        steps = steps_of(self.texts[p])
        left = [k for k, hand in self.walks[p] if k not in self.undone[p]]
        self.test.assertEqual(left[-1], i)
        self.test.assertFalse(any(steps[k].startswith("give ") for k in left))
        words = steps[i].split(" ")
        changes = ()
        if words[0] == "add":
            changes = ((int(words[2]), self.cells[home][int(words[2])] - int(words[3])),)
        self.test.assertEqual(row[3], changes)
        for cell, value in changes:
            self.cells[home][cell] = value
        self.undone[p].append(i)


class ModelTest(unittest.TestCase):
    """Each deed of drawn histories beside a second telling of a house."""

    def same(self, roads, other, deed):
        self.assertEqual(roads.do(deed), other.do(deed))
        home = deed[2][1] if deed[0] == "falling" else deed[1]
        house, model = roads.houses[home], other.houses[home]
        self.assertEqual(house.is_fallen(), model.is_fallen())
        self.assertEqual(house.rows, model.book)
        self.assertEqual(house.stand.cells_told(), model.cells())
        if not house.is_fallen():
            self.assertEqual((house.works.held(), house.works.waiting()), (model.held(), model.waiting()))

    def test_beside_the_model(self):
        for seed in range(300):
            chance = random.Random(seed)
            cells = draw_cells(chance)
            roads, other = Roads(cells), Roads(cells, Model)
            draw = Draw(seed, roads)
            for k in range(chance.choice((20, 60, 120, 200))):
                self.same(roads, other, draw.deed())


class WholeTest(unittest.TestCase):
    """What holds of every history, asked of drawn ones."""

    SEEDS = range(500)

    def check_outcomes(self, roads):
        texts = texts_of(roads.story)
        known = {}
        for at, (home, row) in enumerate(roads.story):
            if row[0] != "end":
                continue
            self.assertEqual(known.setdefault(row[1], row[2]), row[2])
            if row[2] == "done" and texts[row[1]].startswith("held"):
                houses = {house_of(text) for text in steps_of(texts[row[1]])} - {None}
                ready = {there for there, one in roads.story[:at] if one[:2] == ("ready", row[1])}
                self.assertEqual(ready, houses)
        for home in range(len(roads.houses)):
            rows = [row[:3] for there, row in roads.story if there == home and row[0] != "void"]
            # Nothing is written twice at one house: no begin, work, ready, end, walked, undone or over row.
            self.assertEqual(len(rows), len(set(rows)))

    def test_one_outcome_and_one_behind_the_other(self):
        for seed in self.SEEDS:
            roads = history(seed)
            self.check_outcomes(roads)
            Paper(self, roads.first, roads.story)

    def test_calm(self):
        for seed in self.SEEDS:
            roads = history(seed)
            self.assertLessEqual(roads.calm(), 6)
            self.check_outcomes(roads)
            self.check_calm(roads)
            paper = Paper(self, roads.first, roads.story)
            self.assertEqual([house.stand.cells_told() for house in roads.houses], paper.cells)

    def check_calm(self, roads):
        texts = texts_of(roads.story)
        for home, house in enumerate(roads.houses):
            self.assertEqual((house.works.held(), house.works.waiting()), ([], []))
            for row in house.rows:
                if row[0] in ("begin", "work", "ready"):
                    self.assertIsNotNone(house.stand.outcome(row[1]))
        for p in texts:
            if texts[p].startswith("walked"):
                leader = roads.houses[p[0]]
                self.assertIn(("over", p), leader.rows)
                words = {row[0] for home, row in roads.story if row[1] == p}
                if leader.stand.outcome(p) == "done":
                    self.assertFalse(words & {"void", "undone"})
                else:
                    walked = [row[2] for home, row in roads.story if row[:2] == ("walked", p)]
                    undone = [row[2] for home, row in roads.story if row[:2] == ("undone", p)]
                    self.assertEqual(undone, walked[::-1])

    def test_a_house_is_told_by_its_book(self):
        """A house that rises from the same book goes on as one that fell, whatever it knew ahead of the fall."""
        for seed in range(100):
            roads = history(seed)
            for home, house in enumerate(roads.houses):
                other = Model(roads.first[home], home, len(roads.houses))
                other.book = list(house.rows)
                other.fall()
                house.fall()
                one, two = house.rise(), other.rise()
                self.assertEqual(one.rows_told(), two.rows_told())
                self.assertEqual(one.letters_told(), [])
                self.assertEqual(house.turn().letters_told(), other.turn().letters_told())


class RingsTest(unittest.TestCase):
    """What the chases promise of whole histories."""

    def behind(self, roads, p, home):
        return roads.houses[home].works.locks.behind(p)

    def test_a_ring_told_is_one(self):
        counts = {}
        for seed in range(600):
            chance = random.Random(seed)
            many = chance.choice((2, 3, 3))
            roads = Roads([[5]] * many)
            fell = {}
            # Each pact goes round the houses from another one on, so that many wait for one another.
            for k in range(chance.choice((many, many + 2))):
                steps = ["add %d 0 1" % ((k + at) % many) for at in range(many)]
                roads.do(("begin", chance.randrange(many), "held " + "; ".join(steps)))
            draw = Draw(seed, roads)
            draw.most = 0
            for k in range(60):
                deed = draw.deed()
                if deed[0] in ("fall", "falling"):
                    fell[deed[1] if deed[0] == "fall" else deed[2][1]] = True
                for to, letter in roads.do(deed)[1]:
                    if letter[0] == "ring":
                        self.check_ring(roads, fell, to, letter, counts)
        self.assertGreater(min(counts.get(many, 0) for many in (2, 3)), 20)

    def check_ring(self, roads, fell, to, letter, counts):
        path = letter[2]
        pacts = [p for p, home in path]
        self.assertEqual((letter[1], to), (max(pacts, key=lambda p: (p[1], p[0])), letter[1][0]))
        ended = {row[1] for home, row in roads.story if row[0] == "end"}
        if ended & set(pacts) or any(home in fell for p, home in path):
            return
        counts[len(path)] = counts.get(len(path), 0) + 1
        for at, (p, home) in enumerate(path):
            self.assertEqual(self.behind(roads, p, home), pacts[(at + 1) % len(pacts)])

    def test_each_round_of_waiting_pacts_is_told(self):
        counts = {}
        for seed in range(1500):
            chance = random.Random(seed)
            cells = [[5] * chance.choice((1, 2)) for home in range(chance.choice((1, 2, 3)))]
            roads = Roads(cells)
            for k in range(chance.choice((2, 3, 4, 6))):
                roads.do(("begin", chance.randrange(len(cells)), draw_text(chance, cells)))
            order = list(range(len(roads.sent)))
            while order:
                before = len(roads.sent)
                at = order.pop(chance.randrange(len(order)))
                roads.do(("come", roads.sent[at][1], at))
                order += range(before, len(roads.sent))
            ring = self.round_of(roads)
            if ring:
                counts[len(ring)] = counts.get(len(ring), 0) + 1
                self.check_told(chance, roads, ring)
        self.assertGreater(min(counts.get(many, 0) for many in (2, 3)), 5)

    def round_of(self, roads):
        """Pacts that wait in a round, as (pact, house), or nothing."""
        waits = {p: home for home, house in enumerate(roads.houses) for p, lock in house.works.waiting()}
        for start in waits:
            path = [start]
            while path[-1] in waits:
                ahead = self.behind(roads, path[-1], waits[path[-1]])
                if ahead in path:
                    return [(p, waits[p]) for p in path[path.index(ahead):]]
                path.append(ahead)
        return []

    def hinderers(self, roads, p, home):
        pairs = roads.houses[home].works.locks.pairs
        at, lock = [(at, lock) for at, (q, lock) in enumerate(pairs) if q == p][-1]
        return {q for q, other in pairs[:at] if q != p and not other.beside(lock)}

    def check_told(self, chance, roads, ring):
        lone = all(len(self.hinderers(roads, p, home)) == 1 for p, home in ring)
        pacts = {p for p, home in ring}
        start = len(roads.sent)
        rows, letters = roads.do(("turn", chance.choice(ring)[1]))
        if any(row[0] == "end" and row[1] in pacts for row in rows):
            return
        roads.all_come(start)
        rings = [letter for sender, to, letter in roads.sent[start:] if letter[0] == "ring"]
        ended = {row[1]: row[2] for home, row in roads.story if row[0] == "end" and row[1] in pacts}
        self.assertTrue(rings or ended)
        if lone:
            told = [letter[1] for letter in rings if {p for p, home in letter[2]} == pacts]
            self.assertEqual(ended.get(told[0]), "broken")


if __name__ == "__main__":
    unittest.main()
