"""Pacts that wait in a ring, in a room: how it is told, and that its victim is broken off."""

import itertools
import unittest

from pactroom.room import Room

ADD = "add %d %d 1"


def ring_text(places, k):
    """The k-th pact of a ring: it changes its own cell and then the next one's."""
    return "held " + "; ".join([ADD % places[k], ADD % places[(k + 1) % len(places)]])


def come(room, name):
    to = dict((one[0], one[1]) for one in room.letters())[name]
    return [one[1] for one in room.do(("come", to, name)) if one[0] == "send"]


def in_a_ring(leaders, places, many):
    """A room where each of the pacts begun by these leaders waits for the next one's cell; and their names."""
    cells = [[5] * len(places) for h in range(many)]
    room = Room(cells)
    letters, pacts = [], []
    for k, leader in enumerate(leaders):
        told = room.do(("begin", leader, ring_text(places, k)))
        pacts.append(told[0][1][1])
        letters.append(told[1][1])
    for name in letters:
        come(room, name)
    letters = [name for name, to, letter in room.letters() if letter[0] == "did"]
    for name in letters:
        for work in come(room, name):
            come(room, work)
    return room, pacts


def behind(room, p, h):
    return room.houses[h].works.locks.behind(p)


def rings(room, start=0):
    return [(to, letter[1], letter[2]) for name, to, letter in room.letters()[start:] if letter[0] == "ring"]


def all_come(room, start):
    at = start
    while at < len(room.letters()):
        come(room, room.letters()[at][0])
        at += 1


def places_of(count, many):
    """Cells for so many pacts, over so many houses."""
    return [(k % many, k // many) for k in range(count)]


class RingTest(unittest.TestCase):
    CASES = [(2, 1), (2, 2), (3, 1), (3, 2), (3, 3)]

    def cases(self):
        for count, many in self.CASES:
            for leaders in itertools.product(range(many), repeat=count):
                yield count, many, leaders

    def test_they_wait(self):
        for count, many, leaders in self.cases():
            room, pacts = in_a_ring(leaders, places_of(count, many), many)
            for k in range(count):
                self.assertEqual(behind(room, pacts[k], (k + 1) % count % many), pacts[(k + 1) % count])

    def test_a_turn_and_its_letters_tell_the_ring(self):
        for count, many, leaders in self.cases():
            for h in range(many):
                room, pacts = in_a_ring(leaders, places_of(count, many), many)
                victim = max(pacts, key=lambda p: (p[1], p[0]))
                start = len(room.letters())
                room.do(("turn", h))
                self.check_told(room, start, pacts, victim)
                self.assertEqual([row for row in room.book(victim[0]) if row[:2] == ("end", victim)],
                                 [("end", victim, "broken", ())])

    def check_told(self, room, start, pacts, victim):
        """All letters come; each ring that is told ahead of an end row is one."""
        at, seen = start, 0
        while at < len(room.letters()):
            for to, about, path in rings(room, start)[seen:]:
                self.assertEqual((to, about), (victim[0], victim))
                self.assertEqual(sorted(p for p, h in path), sorted(pacts))
                if not any(row[0] == "end" for h, row in room.story()):
                    for k, (p, h) in enumerate(path):
                        self.assertEqual(behind(room, p, h), path[(k + 1) % len(path)][0])
            seen = len(rings(room, start))
            come(room, room.letters()[at][0])
            at += 1
        self.assertTrue(seen)

    def test_the_others_are_done_behind_it(self):
        for count, many, leaders in self.cases():
            room, pacts = in_a_ring(leaders, places_of(count, many), many)
            victim = max(pacts, key=lambda p: (p[1], p[0]))
            start = len(room.letters())
            room.do(("turn", 0))
            all_come(room, start)
            for p in pacts:
                self.assertEqual(room.knows(p[0], p), "broken" if p == victim else "done")
            for h in range(many):
                self.assertEqual(room.state(h)[3:], ((), ()))

    def test_letters_of_a_chase_over_two_houses(self):
        room, pacts = in_a_ring((0, 1), places_of(2, 2), 2)
        self.assertEqual(pacts, [(0, 0), (1, 0)])
        # Pact (1, 0) waits at house 0 behind (0, 0), which house 0 leads itself.
        path = (((1, 0), 0),)
        ask = (1, ("ask", (1, 0), (), ()))
        told = room.do(("turn", 0))
        seek = (0, ("seek", (0, 0), path, ()))
        self.assertEqual([one[2:] for one in told][:2], [ask, seek])
        find = room.do(("come", 0, told[1][1]))
        self.assertEqual([one[2:] for one in find], [(1, ("find", (0, 0), path, ()))])
        ring = room.do(("come", 1, find[0][1]))
        path += (((0, 0), 1),)
        self.assertEqual([one[2:] for one in ring], [(1, ("ring", (1, 0), path, ()))])
        broken = room.do(("come", 1, ring[0][1]))
        news = (((1, 0), "broken"),)
        # Its end frees (0, 0) in the same deed: that one's step is done, then the lead tells the other house.
        self.assertEqual(broken[:2], [("row", ("end", (1, 0), "broken", ())), ("row", ("work", (0, 0)))])
        self.assertEqual([one[2:] for one in broken[2:]],
                         [(0, ("did", (0, 0), (1, 0), news)), (0, ("tell", (1, 0), (), news))])


class EndedTest(unittest.TestCase):
    """A chase that comes upon a pact that has ended leads nowhere."""

    def chase(self):
        room, pacts = in_a_ring((0, 1), places_of(2, 2), 2)
        seek = [one for one in room.do(("turn", 0)) if one[3][0] == "seek"][0]
        return room, pacts, seek[1]

    def end(self, room, p):
        while room.knows(p[0], p) is None:
            room.do(("turn", p[0]))

    def test_seek(self):
        room, pacts, seek = self.chase()
        self.end(room, (0, 0))
        self.assertEqual(room.do(("come", 0, seek)), [])

    def test_find(self):
        room, pacts, seek = self.chase()
        find = room.do(("come", 0, seek))[0]
        self.end(room, (0, 0))
        tell = [name for name, to, letter in room.letters() if letter[:2] == ("tell", (0, 0)) and to == 1][0]
        room.do(("come", 1, tell))
        self.assertEqual(room.do(("come", 1, find[1])), [])

    def test_ring(self):
        room, pacts, seek = self.chase()
        ring = come(room, come(room, seek)[0])[0]
        self.end(room, (1, 0))
        self.assertEqual(room.do(("come", 1, ring)), [])
        self.assertEqual([row[2] for row in room.book(1) if row[:2] == ("end", (1, 0))], ["broken"])

    def test_a_ring_twice(self):
        room, pacts, seek = self.chase()
        ring = come(room, come(room, seek)[0])[0]
        self.assertEqual(room.do(("come", 1, ring))[0], ("row", ("end", (1, 0), "broken", ())))
        self.assertEqual(room.do(("come", 1, ring)), [])

    def test_a_ring_for_a_fallen_lead(self):
        room, pacts, seek = self.chase()
        ring = come(room, come(room, seek)[0])[0]
        room.do(("fall", 1))
        room.do(("rise", 1))
        self.assertEqual(room.knows(1, (1, 0)), "broken")
        self.assertEqual(room.do(("come", 1, ring)), [])

    def test_seek_about_a_walked_pact_or_one_led_elsewhere(self):
        room = Room([[5, 5], [5]])
        room.do(("begin", 0, "held add 1 0 1; take 0 0"))
        room.do(("begin", 0, "held add 1 0 2"))
        room.do(("come", 1, (0, 0, 0)))
        room.do(("come", 1, (0, 1, 0)))
        seek = [one for one in room.do(("turn", 1)) if one[3][0] == "seek"][0]
        self.assertEqual(seek[2:], (0, ("seek", (0, 0), (((0, 1), 1),), ())))
        # Its lead waits for the answer of step 0, of house 1.
        self.assertEqual([one[2:] for one in room.do(("come", 0, seek[1]))],
                         [(1, ("find", (0, 0), (((0, 1), 1),), ()))])
        # It does not wait there: the chase is over.
        self.assertEqual(room.do(("come", 1, room.letters()[-1][0])), [])

    def test_seek_about_a_lead_that_waits_for_yes(self):
        room = Room([[5, 5], [5]])
        room.do(("begin", 0, "held add 1 0 1"))
        room.do(("begin", 0, "held add 1 0 2"))
        did = come(room, (0, 0, 0))
        room.do(("come", 1, (0, 1, 0)))
        seek = [one for one in room.do(("turn", 1)) if one[3][0] == "seek"][0]
        come(room, did[0])
        self.assertEqual(room.do(("come", 0, seek[1])), [])


if __name__ == "__main__":
    unittest.main()
