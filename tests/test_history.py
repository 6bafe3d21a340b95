"""Houses behind drawn histories: what their books tell, and the rings of pacts that wait."""

import random
import unittest

from model import Model
from roads import Draw, Roads, draw_cells, draw_text


def history(seed):
    """Roads behind a drawn history."""
    chance = random.Random(seed)
    roads = Roads(draw_cells(chance))
    draw = Draw(seed, roads)
    for k in range(chance.choice((20, 60, 120, 300))):
        roads.do(draw.deed())
    return roads


class BookTest(unittest.TestCase):
    def test_a_house_is_told_by_its_book(self):
        """A house that rises from the same book goes on as one that fell, whatever it knew ahead of the fall."""
        for seed in range(100):
            roads = history(seed)
            for home, house in enumerate(roads.houses):
                other = Model(roads.first[home], home, len(roads.houses))
                other.book = list(house.rows)
                other.fall()
                house.fall()
                one, two = house.rise(), other.rise()
                self.assertEqual(one.rows_told(), two.rows_told())
                self.assertEqual(one.letters_told(), [])
                self.assertEqual(house.turn().letters_told(), other.turn().letters_told())


class RingsTest(unittest.TestCase):
    """What the chases promise of whole histories."""

    def behind(self, roads, p, home):
        return roads.houses[home].works.locks.behind(p)

    def test_a_ring_told_is_one(self):
        counts = {}
        for seed in range(600):
            chance = random.Random(seed)
            many = chance.choice((2, 3, 3))
            roads = Roads([[5]] * many)
            fell = {}
            # Each pact goes round the houses from another one on, so that many wait for one another.
            for k in range(chance.choice((many, many + 2))):
                steps = ["add %d 0 1" % ((k + at) % many) for at in range(many)]
                roads.do(("begin", chance.randrange(many), "held " + "; ".join(steps)))
            draw = Draw(seed, roads)
            draw.most = 0
            for k in range(60):
                deed = draw.deed()
                if deed[0] in ("fall", "falling"):
                    fell[deed[1] if deed[0] == "fall" else deed[2][1]] = True
                for to, letter in roads.do(deed)[1]:
                    if letter[0] == "ring":
                        self.check_ring(roads, fell, to, letter, counts)
        self.assertGreater(min(counts.get(many, 0) for many in (2, 3)), 20)

    def check_ring(self, roads, fell, to, letter, counts):
        path = letter[2]
        pacts = [p for p, home in path]
        self.assertEqual((letter[1], to), (max(pacts, key=lambda p: (p[1], p[0])), letter[1][0]))
        ended = {row[1] for home, row in roads.story if row[0] == "end"}
        if ended & set(pacts) or any(home in fell for p, home in path):
            return
        counts[len(path)] = counts.get(len(path), 0) + 1
        for at, (p, home) in enumerate(path):
            self.assertEqual(self.behind(roads, p, home), pacts[(at + 1) % len(pacts)])

    def test_each_round_of_waiting_pacts_is_told(self):
        counts = {}
        for seed in range(1500):
            chance = random.Random(seed)
            cells = [[5] * chance.choice((1, 2)) for home in range(chance.choice((1, 2, 3)))]
            roads = Roads(cells)
            for k in range(chance.choice((2, 3, 4, 6))):
                roads.do(("begin", chance.randrange(len(cells)), draw_text(chance, cells)))
            order = list(range(len(roads.sent)))
            while order:
                before = len(roads.sent)
                at = order.pop(chance.randrange(len(order)))
                roads.do(("come", roads.sent[at][1], at))
                order += range(before, len(roads.sent))
            ring = self.round_of(roads)
            if ring:
                counts[len(ring)] = counts.get(len(ring), 0) + 1
                self.check_told(chance, roads, ring)
        self.assertGreater(min(counts.get(many, 0) for many in (2, 3)), 5)

    def round_of(self, roads):
        """Pacts that wait in a round, as (pact, house), or nothing."""
        waits = {p: home for home, house in enumerate(roads.houses) for p, lock in house.works.waiting()}
        for start in waits:
            path = [start]
            while path[-1] in waits:
                ahead = self.behind(roads, path[-1], waits[path[-1]])
                if ahead in path:
                    return [(p, waits[p]) for p in path[path.index(ahead):]]
                path.append(ahead)
        return []

    def hinderers(self, roads, p, home):
        pairs = roads.houses[home].works.locks.pairs
        at, lock = [(at, lock) for at, (q, lock) in enumerate(pairs) if q == p][-1]
        return {q for q, other in pairs[:at] if q != p and not other.beside(lock)}

    def check_told(self, chance, roads, ring):
        lone = all(len(self.hinderers(roads, p, home)) == 1 for p, home in ring)
        pacts = {p for p, home in ring}
        start = len(roads.sent)
        rows, letters = roads.do(("turn", chance.choice(ring)[1]))
        if any(row[0] == "end" and row[1] in pacts for row in rows):
            return
        roads.all_come(start)
        rings = [letter for sender, to, letter in roads.sent[start:] if letter[0] == "ring"]
        ended = {row[1]: row[2] for home, row in roads.story if row[0] == "end" and row[1] in pacts}
        self.assertTrue(rings or ended)
        if lone:
            told = [letter[1] for letter in rings if {p for p, home in letter[2]} == pacts]
            self.assertEqual(ended.get(told[0]), "broken")


if __name__ == "__main__":
    unittest.main()
