import itertools
import random
import unittest

from drawn import Drawn, drawn
from pactroom.doubts import doubt, past
from pactroom.errors import Fallen, NoLetter, NotBound, Standing
from pactroom.room import Room, room_behind
from roads import Draw

CELLS = [[10], [20], [30], [40]]
P = (0, 0)


def home_of(deed):
    return deed[2][1] if deed[0] == "falling" else deed[1]


def taken(deed):
    """The name of the letter that a deed takes in, or None."""
    if deed[0] == "falling":
        return None if deed[1] == 0 else taken(deed[2])
    return deed[2] if deed[0] == "come" else None


def is_bound(room, h, p):
    rows = [row[0] for row in room.book(h) if row[1] == p]
    return "ready" in rows and "end" not in rows


def slow_past(cells, deeds, group):
    """The past as its words say it, found by going over all deeds till none comes to it."""
    room, senders, kept = Room(cells), {}, set()
    for at, deed in enumerate(deeds):
        senders.update({one[1]: at for one in room.do(deed) if one[0] == "send"})
    size = -1
    while size != len(kept):
        size = len(kept)
        for at, deed in enumerate(deeds):
            later = any(home_of(deeds[k]) == home_of(deed) for k in kept if k > at)
            came = any(senders.get(taken(deeds[k])) == at for k in kept)
            if home_of(deed) in group or later or came:
                kept.add(at)
    told = []
    for at in sorted(kept):
        deed = deeds[at]
        fell = deed[0] == "falling" and deed[1] == 0 and deed[2][0] == "come"
        told.append(("fall", deed[2][1]) if fell else deed)
    return told


class PastCase(unittest.TestCase):
    def check_past(self, cells, deeds, group):
        told = past(cells, deeds, group)
        self.assertEqual(told, slow_past(cells, deeds, group))
        room, other = Room(cells), Room(cells)
        here = [(deed, room.do(deed)) for deed in deeds]
        there = [(deed, other.do(deed)) for deed in told]
        self.assertEqual([one[1] for one in here if home_of(one[0]) in group],
                         [one[1] for one in there if home_of(one[0]) in group])
        for h in group:
            self.assertEqual(other.state(h), room.state(h))
        return told


class PastTest(PastCase):
    # House 0 asks house 1, house 2 asks house 3.
    DEEDS = [("begin", 0, "held take 1 0; take 0 0"), ("begin", 2, "held take 3 0"), ("come", 1, (0, 0, 0)),
             ("turn", 2), ("come", 3, (2, 1, 0)), ("come", 0, (1, 0, 0)), ("turn", 1), ("turn", 0)]

    def at(self, *places):
        return [self.DEEDS[k] for k in places]

    def test_of_one_house(self):
        for group, places in (([1], (0, 2, 6)), ([0], (0, 2, 5, 7)), ([3], (1, 3, 4)), ([2], (1, 3))):
            self.assertEqual(self.check_past(CELLS, self.DEEDS, group), self.at(*places))

    def test_of_several(self):
        for group in ([0, 3], [3, 0]):
            self.assertEqual(self.check_past(CELLS, self.DEEDS, group), self.at(0, 1, 2, 3, 4, 5, 7))
        self.assertEqual(self.check_past(CELLS, self.DEEDS, [1, 2]), self.at(0, 1, 2, 3, 6))

    def test_of_all_and_none(self):
        for group in itertools.permutations(range(4)):
            self.assertEqual(past(CELLS, self.DEEDS, list(group)), self.DEEDS)
        self.assertEqual(past(CELLS, self.DEEDS, []), [])
        self.assertEqual(past(CELLS, [], [0, 1]), [])

    def test_a_letter_not_come_brings_nothing(self):
        deeds = [("begin", 0, "held take 1 0"), ("begin", 1, "held take 0 0")]
        self.assertEqual(self.check_past(CELLS, deeds, [1]), deeds[1:])

    def test_deeds_ahead_of_the_sending_one(self):
        deeds = [("turn", 0), ("fall", 0), ("rise", 0), ("begin", 0, "held take 1 0"), ("turn", 0), ("fall", 0),
                 ("come", 1, (0, 3, 0))]
        self.assertEqual(self.check_past(CELLS, deeds, [1]), deeds[:4] + deeds[6:])
        deeds[6] = ("come", 1, (0, 4, 0))
        self.assertEqual(self.check_past(CELLS, deeds, [1]), deeds[:5] + deeds[6:])

    def test_fallings(self):
        come = ("come", 1, (0, 0, 0))
        begin = ("begin", 0, "held take 1 0")
        for j in (1, 2, 9):
            deeds = [begin, ("falling", j, come)]
            self.assertEqual(self.check_past(CELLS, deeds, [1]), deeds)
        # With j = 0 no letter is taken in.
        deeds = [begin, ("falling", 0, come), ("rise", 1), ("turn", 1)]
        self.assertEqual(self.check_past(CELLS, deeds, [1]), [("fall", 1)] + deeds[2:])
        self.assertEqual(self.check_past(CELLS, deeds, [0, 1]), [begin, ("fall", 1)] + deeds[2:])
        # Another deed than a come stands as it is.
        for one in (("turn", 1), ("begin", 1, "held plus 1")):
            deeds = [("falling", 0, one), ("falling", 0, ("rise", 1)), ("falling", 1, ("rise", 1)), ("rise", 1)]
            self.assertEqual(self.check_past(CELLS, deeds, [1]), deeds)

    def test_a_fall_that_took_no_letter_counts_among_the_deeds(self):
        deeds = [("begin", 0, "held take 1 0"), ("falling", 0, ("come", 1, (0, 0, 0))), ("rise", 1),
                 ("begin", 1, "held take 2 0"), ("come", 2, (1, 2, 0))]
        self.assertEqual(self.check_past(CELLS, deeds, [2]), [("fall", 1)] + deeds[2:])

    def test_a_falling_that_sent_a_letter(self):
        deeds = [("falling", 2, ("begin", 0, "held take 1 0")), ("rise", 0), ("come", 1, (0, 0, 0))]
        self.assertEqual(self.check_past(CELLS, deeds, [1]), [deeds[0], deeds[2]])

    def test_what_is_handed_in_stays(self):
        cells, deeds, group = [[1], [2]], [("begin", 0, "held add 1 0 1"), ("come", 1, (0, 0, 0))], [1]
        told = past(cells, deeds, group)
        told.append(("turn", 0))
        told[0] = None
        self.assertEqual(cells, [[1], [2]])
        self.assertEqual(deeds, [("begin", 0, "held add 1 0 1"), ("come", 1, (0, 0, 0))])
        self.assertEqual(group, [1])

    def test_a_list_that_is_no_history(self):
        self.assertRaises(Standing, past, CELLS, [("turn", 0), ("rise", 0)], [0])
        self.assertRaises(NoLetter, past, CELLS, [("come", 0, (1, 0, 0))], [0])
        self.assertRaises(Fallen, doubt, CELLS, [("fall", 0), ("turn", 0)], [0], P)

    def test_drawn(self):
        lengths = []
        for seed in range(60):
            one = drawn(seed, (20, 60, 120))
            chance = random.Random(seed)
            many = len(one.first)
            for k in range(3):
                group = chance.sample(range(many), chance.randrange(1, many + 1))
                lengths.append(len(self.check_past(one.first, one.deeds, group)) < len(one.deeds))
        self.assertGreater(sum(lengths), 30)
        self.assertGreater(len(lengths) - sum(lengths), 10)


def begun(text, leader=0):
    """The deeds of a held pact till its leader sends ready, and the names of the letters ready by their houses."""
    room = Room(CELLS)
    deeds = [("begin", leader, text)]
    room.do(deeds[0])
    at = 0
    while room.letters()[at][2][0] != "ready":
        name, to, letter = room.letters()[at]
        deeds.append(("come", to, name))
        room.do(deeds[-1])
        at += 1
    return deeds, {to: name for name, to, letter in room.letters()[at:]}


def readied(text, homes, leader=0):
    """The same, and these houses are bound."""
    deeds, names = begun(text, leader)
    return deeds + [("come", h, names[h]) for h in homes]


TEXT = "held add 1 0 1; add 2 0 1; take 3 0"
OWN = "held add 0 0 1; add 1 0 1; add 2 0 1"


class DoubtCase(unittest.TestCase):
    def check(self, cells, deeds, group, p):
        """Asks all of what doubt tells that must hold of it; tells its word, or None where it is refused."""
        kept = ([list(values) for values in cells], list(deeds), list(group))
        room = room_behind(cells, deeds)
        bound = [h for h in group if is_bound(room, h, p)]
        if not bound:
            self.assertRaises(NotBound, doubt, cells, deeds, group, p)
            return None
        told = doubt(cells, deeds, group, p)
        self.assertEqual((cells, deeds, group), kept)
        if self.can_know(room, group, p, bound):
            self.assertEqual((len(told), told[0]), (2, "way"))
            self.check_way(room_behind(cells, deeds), told[1], group, p, bound)
        else:
            self.assertEqual((len(told), told[0]), (3, "twins"))
            for history, outcome in zip(told[1:], ("broken", "done")):
                self.check_twin(cells, deeds, history, outcome, group, p)
        return told[0]

    def can_know(self, room, group, p, bound):
        houses = [row[2] for row in room.book(bound[0]) if row[:2] == ("ready", p)][0]
        return any(room.knows(h, p) is not None or h == p[0] or h in houses and h not in bound for h in group)

    def check_way(self, room, deeds, group, p, bound):
        self.assertIsInstance(deeds, list)
        sent = []
        for deed in deeds:
            self.assertIn(home_of(deed), group)
            if taken(deed) is not None:
                self.assertIn(taken(deed), sent)
            sent += [one[1] for one in room.do(deed) if one[0] == "send"]
        for h in bound:
            self.assertIsNotNone(room.knows(h, p))
        outcomes = {row[2] for h, row in room.story() if row[:2] == ("end", p)}
        self.assertEqual(len(outcomes), 1)

    def check_twin(self, cells, deeds, history, outcome, group, p):
        self.assertIsInstance(history, list)
        room, twin = room_behind(cells, deeds), room_behind(cells, history)
        self.assertEqual(twin.knows(p[0], p), outcome)
        for h in group:
            self.assertEqual(twin.state(h), room.state(h))
        roads = dict((one[0], one) for one in twin.letters())
        # Letters that lie on both roads come once more, and each house rises or has its turns.
        for h in group:
            if not room.standing(h):
                self.assertEqual(twin.do(("rise", h)), room.do(("rise", h)))
        for name, to, letter in room.letters():
            if to in group and roads.get(name) == (name, to, letter):
                self.assertEqual(twin.do(("come", to, name)), room.do(("come", to, name)))
        for k in range(4):
            for h in group:
                self.assertEqual(twin.do(("turn", h)), room.do(("turn", h)))
        for h in group:
            self.assertEqual(twin.state(h), room.state(h))


class NotBoundTest(DoubtCase):
    def refused(self, deeds, group, p):
        self.assertIsNone(self.check(CELLS, deeds, group, p))

    def test_nobody_is_bound(self):
        self.refused([], [0, 1, 2, 3], P)
        self.refused(begun(TEXT)[0], [0, 1, 2, 3], P)
        self.refused([], [], P)

    def test_another_house_is_bound(self):
        deeds = readied(TEXT, [1, 2])
        for group in ([0], [3], [3, 0], []):
            self.refused(deeds, group, P)

    def test_another_pact(self):
        deeds = readied(TEXT, [1, 2])
        for p in ((0, 1), (1, 0), (9, 9)):
            self.refused(deeds, [0, 1, 2, 3], p)

    def test_a_walked_pact(self):
        deeds = [("begin", 0, "walked add 1 0 1; add 2 0 1"), ("come", 1, (0, 0, 0)), ("come", 0, (1, 0, 0))]
        self.refused(deeds, [0, 1, 2, 3], P)

    def test_who_knows_is_not_bound(self):
        deeds = readied(TEXT, [1, 2]) + [("fall", 0), ("rise", 0), ("turn", 1)]
        room = room_behind(CELLS, deeds)
        ask = [name for name, to, letter in room.letters() if letter[0] == "ask" and to == 0][0]
        deeds.append(("come", 0, ask))
        tell = [one for one in room.do(deeds[-1]) if one[0] == "send"][0]
        self.assertEqual(self.check(CELLS, deeds, [1], P), "twins")
        self.refused(deeds + [("come", 1, tell[1])], [1], P)
        self.assertEqual(self.check(CELLS, deeds + [("come", 1, tell[1])], [2, 1], P), "way")

    def test_a_fallen_house_is_bound(self):
        deeds = readied(TEXT, [1]) + [("fall", 1)]
        self.assertEqual(self.check(CELLS, deeds, [1], P), "twins")
        self.assertEqual(self.check(CELLS, deeds, [0, 1], P), "way")


class WayTest(DoubtCase):
    def way(self, deeds, group, p=P):
        self.assertEqual(self.check(CELLS, deeds, group, p), "way")
        return doubt(CELLS, deeds, group, p)[1]

    def outcome(self, deeds, group, h, p=P):
        return room_behind(CELLS, deeds + self.way(deeds, group, p)).knows(h, p)

    def test_the_leader_is_of_the_group(self):
        deeds = readied(TEXT, [1, 2, 3])
        for group in ([0, 1], [1, 0], [3, 2, 1, 0]):
            self.assertEqual(self.outcome(deeds, group, 1), "broken")
        # Its patience ends with the fourth turn.
        self.assertEqual(self.way(deeds, [0, 1])[:4], [("turn", 0)] * 4)
        self.assertEqual(self.way(deeds + [("turn", 0)] * 3, [0, 1])[:2], [("turn", 0), ("turn", 1)])

    def test_the_leader_is_fallen(self):
        deeds = readied(TEXT, [1, 2, 3]) + [("fall", 0)]
        self.assertEqual(self.way(deeds, [1, 0])[:2], [("rise", 0), ("turn", 1)])
        self.assertEqual(self.outcome(deeds, [0, 1, 3], 3), "broken")

    def test_groups_in_any_order(self):
        deeds = readied(TEXT, [1, 2]) + [("fall", 0), ("fall", 3), ("fall", 1)]
        told = [self.way(deeds, list(group)) for group in itertools.permutations([0, 1, 2, 3])]
        self.assertEqual(told, told[:1] * 24)

    def test_the_leader_knows(self):
        deeds = readied(TEXT, [1, 2, 3])
        deeds += [("come", 0, (h, 1, 0)) for h in (1, 2, 3)]
        self.assertEqual(room_behind(CELLS, deeds).knows(0, P), "done")
        for fallen in ([], [("fall", 0)], [("fall", 0), ("fall", 2)]):
            for h in (1, 2):
                self.assertEqual(self.outcome(deeds + fallen, [2, 0, 1], h), "done")

    def test_the_leader_is_bound_itself(self):
        deeds = readied(OWN, [0, 1])
        for group in ([0], [0, 1], [2, 0], [0, 3]):
            self.assertEqual(self.outcome(deeds, group, 0), "broken")
            self.assertEqual(self.outcome(deeds + [("fall", 0)], group, 0), "broken")

    def test_another_house_knows(self):
        deeds = readied(TEXT, [1, 2, 3])
        deeds += [("come", 0, (h, 1, 0)) for h in (1, 2, 3)]
        tells = [(name, to) for name, to, letter in room_behind(CELLS, deeds).letters() if letter[0] == "tell"]
        deeds.append(("come", 2, dict((to, name) for name, to in tells)[2]))
        for fallen in ([], [("fall", 2)], [("fall", 1)], [("fall", 1), ("fall", 2)]):
            for group in ([1, 2], [2, 1], [3, 1, 2]):
                self.assertEqual(self.outcome(deeds + fallen, group, 1), "done")

    def test_a_house_that_is_none_of_the_pact_knows(self):
        text = "held add 1 0 1; add 2 0 1"
        deeds = readied(text, [1, 2]) + [("come", 0, (1, 1, 0)), ("come", 0, (2, 1, 0)), ("begin", 0, "held take 3 0")]
        name = room_behind(CELLS, deeds).letters()[-1][0]
        self.assertEqual(self.check(CELLS, deeds, [1, 3], P), "twins")
        deeds.append(("come", 3, name))
        self.assertEqual(self.outcome(deeds, [1, 3], 1), "done")
        self.assertEqual(self.outcome(deeds + [("fall", 3)], [2, 1, 3], 2), "done")

    def test_a_house_that_is_not_bound(self):
        deeds = readied(TEXT, [1, 2])
        for fallen in ([], [("fall", 3)], [("fall", 1)], [("fall", 2), ("fall", 3)], [("fall", 0)]):
            for group in ([1, 3], [3, 1], [1, 2, 3], [2, 3]):
                self.assertEqual(self.outcome(deeds + fallen, group, group[0] if group[0] != 3 else group[1]), "broken")

    def test_letters_about_p_alone_come(self):
        """The house is bound for two pacts, and each other one could tell it of both."""
        cells = [[10], [20, 21], [30], [40]]
        texts = {(0, 0): "held add 1 0 1; take 2 0", (3, 0): "held add 1 1 1; take 2 0"}
        deeds = self.both_bound(cells, texts)
        room = room_behind(cells, deeds)
        self.assertTrue(is_bound(room, 1, (0, 0)) and is_bound(room, 1, (3, 0)))
        for p in texts:
            for group in ([1, 2], [2, 1, p[0]]):
                self.assertEqual(self.check(cells, deeds, group, p), "way")
                way = doubt(cells, deeds, group, p)[1]
                letters = dict((one[0], one[2]) for one in room_behind(cells, deeds + way).letters())
                self.assertEqual({letters[deed[2]][1] for deed in way if deed[0] == "come"}, {p})

    def both_bound(self, cells, texts):
        """House 1 is bound for both pacts, house 2 for none."""
        room = Room(cells)
        deeds = [("begin", p[0], texts[p]) for p in texts]
        for deed in deeds:
            room.do(deed)
        at = 0
        while at < len(room.letters()):
            name, to, letter = room.letters()[at]
            if (to, letter[0]) != (2, "ready"):
                deeds.append(("come", to, name))
                room.do(deeds[-1])
            at += 1
        return deeds

    def test_only_those_who_do_not_know_ask(self):
        deeds = readied(OWN, [0, 1])
        self.assertEqual(self.way(deeds, [0]), [("turn", 0)] * 4)
        self.assertEqual(self.way(deeds + [("fall", 0)], [0]), [("rise", 0)])


class TwinsTest(DoubtCase):
    def twins(self, deeds, group, p=P):
        self.assertEqual(self.check(CELLS, deeds, group, p), "twins")
        return doubt(CELLS, deeds, group, p)

    def test_one_house(self):
        told = self.twins(readied(TEXT, [1, 2, 3]), [1])
        self.assertEqual(told[1][-2:], [("fall", 0), ("rise", 0)])
        # What the group has seen ends with its own deed: that others are bound is not of its past.
        self.assertNotIn(("come", 2, (0, 4, 1)), told[1])

    def test_several_houses_in_any_order(self):
        deeds = readied(TEXT, [1, 2, 3])
        for homes in ([1, 2, 3], [1, 3]):
            told = [self.twins(deeds, list(group)) for group in itertools.permutations(homes)]
            self.assertEqual(told, told[:1] * len(told))

    def test_who_is_not_bound_lies_outside(self):
        deeds = readied(TEXT, [2])
        self.twins(deeds, [2])

    def test_a_house_beside_the_pact(self):
        self.twins(readied("held add 1 0 1; add 2 0 1", [1]), [3, 1])

    def test_the_leader_is_a_house_of_the_pact(self):
        for homes in ([1], [1, 0], [1, 2], [0, 1, 2]):
            self.twins(readied(OWN, homes), [1])
        self.twins(readied(OWN, [1, 2]), [2, 1])

    def test_fallen_houses_of_the_group(self):
        deeds = readied(TEXT, [1, 2])
        for fallen in ([("fall", 1)], [("fall", 2)], [("fall", 2), ("fall", 1)], [("fall", 1), ("rise", 1)]):
            self.twins(deeds + fallen, [1, 2])

    def test_the_outcome_is_known_elsewhere(self):
        deeds = readied(TEXT, [1, 2, 3])
        self.twins(deeds + [("fall", 0), ("rise", 0)], [1, 2])
        self.twins(deeds + [("come", 0, (h, 1, 0)) for h in (1, 2, 3)], [3, 1])

    def test_a_house_that_fell_as_it_said_yes(self):
        deeds, names = begun(TEXT)
        for j in (1, 2, 5):
            self.twins(deeds + [("falling", j, ("come", 1, names[1]))], [1])
            self.twins(deeds + [("falling", j, ("come", 1, names[1])), ("rise", 1)], [1])
            self.twins(deeds + [("falling", j, ("come", 2, names[2])), ("come", 1, names[1])], [1, 2])

    def test_the_leader_fell_as_it_sent_ready(self):
        deeds, names = begun(TEXT)
        for j in (2, 3, 4, 9):
            cut = deeds[:-1] + [("falling", j, deeds[-1]), ("come", 1, names[1])]
            told = self.twins(cut, [1])
            self.assertIn(deeds[-1], told[1])
            self.twins(cut + [("rise", 0)], [1])

    def test_others_fell_as_they_did_their_step(self):
        deeds, names = begun(TEXT)
        for at in range(1, len(deeds)):
            if deeds[at][1] != 0:
                fallen = deeds[:at] + [("falling", 2, deeds[at])] + deeds[at + 1:]
                for h in (1, 2, 3):
                    if h != deeds[at][1]:
                        self.twins(fallen + [("come", h, names[h])], [h])

    def test_fallings_long_before(self):
        first = [("falling", 1, ("begin", 0, "held take 1 0")), ("rise", 0), ("falling", 0, ("turn", 2)), ("rise", 2),
                 ("falling", 0, ("begin", 3, "held plus 1")), ("falling", 0, ("rise", 3)), ("rise", 3)]
        room = room_behind(CELLS, first)
        deeds = [("begin", 0, TEXT)]
        p = room.do(deeds[0])[0][1][1]
        at = 0
        while not is_bound(room, 2, p):
            name, to, letter = room.letters()[at]
            deeds.append(("come", to, name))
            room.do(deeds[-1])
            at += 1
        self.assertEqual(p, (0, 1))
        self.twins(first + deeds, [2], p)
        self.twins(first + deeds, [1, 2], p)

    def test_a_cut_letter_is_sent_in_the_twins(self):
        deeds, names = begun(TEXT)
        falling = ("falling", 1, ("come", 1, names[1]))
        told = self.twins(deeds + [falling], [1])
        for history in told[1:]:
            self.assertNotIn(falling, history)
            same = [deed for deed in history if deed[0] == "falling" and deed[2] == falling[2]]
            self.assertEqual(len(same), 1)
            self.assertGreater(same[0][1], 1)


class DrawnTest(DoubtCase):
    """Drawn histories with falls and fallings, cut where somebody is bound."""

    def text(self, chance, many):
        steps = ["add %d 0 %d" % (chance.randrange(many), k) for k in range(chance.choice((2, 3, 4)))]
        return "held " + "; ".join(steps)

    def test_drawn(self):
        words = {}
        for seed in range(400):
            chance = random.Random(seed)
            many = chance.choice((2, 3, 3, 4, 5))
            one = Drawn([[5]] * many)
            for k in range(chance.choice((1, 1, 2))):
                one.do(("begin", chance.randrange(many), self.text(chance, many)))
            draw = Draw(seed, one)
            draw.most = chance.choice((0, 0, 3))
            draw.falls = chance.choice((0, 3, 8))
            for k in range(chance.choice((15, 30, 60))):
                one.do(draw.deed())
                if chance.randrange(4) == 0:
                    self.check_drawn(chance, one, words)
        self.assertEqual(sorted(words), ["twins", "way"])
        self.assertGreater(min(words.values()), 100)

    def check_drawn(self, chance, one, words):
        many = len(one.first)
        ready = {(h, row[1]) for h, row in one.room.story() if row[0] == "ready"}
        pairs = [pair for pair in sorted(ready) if is_bound(one.room, *pair)]
        if pairs:
            h, p = chance.choice(pairs)
            group = chance.sample(range(many), chance.randrange(1, many + 1))
            group = group if h in group or chance.randrange(9) == 0 else group + [h]
            word = self.check(one.first, list(one.deeds), group, p)
            if word is not None:
                words[word] = words.get(word, 0) + 1


if __name__ == "__main__":
    unittest.main()
