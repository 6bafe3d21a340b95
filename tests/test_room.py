import random
import unittest

from drawn import Drawn
from model import Model
from pactroom.errors import Fallen, NoHouse, NoLetter, NoPlace, NoText, NoWayBack, Standing
from pactroom.room import Room
from roads import Draw, Roads, draw_cells

CELLS = [[10, 20], [30], [40, 50]]
TEXT = "held take 1 0; add 0 1 5"
P = (0, 0)
NEWS = ((P, "done"),)


def begun(text, h=0, cells=CELLS):
    room = Room(cells)
    room.do(("begin", h, text))
    return room


def all_come(room, start=0):
    """Each letter from this number on comes once, the first sent first."""
    at = start
    while at < len(room.letters()):
        name, to, letter = room.letters()[at]
        room.do(("come", to, name))
        at += 1


def whole(room):
    """All that a room tells."""
    many = len(room.houses)
    return ([room.state(h) for h in range(many)], [room.book(h) for h in range(many)], room.letters(), room.story(),
            [room.cells_of(h) for h in range(many)], [room.standing(h) for h in range(many)])


class DeedTest(unittest.TestCase):
    """A held pact from its begin to its end, deed by deed."""

    DEEDS = [
        (("begin", 0, TEXT), [("begin", P, TEXT)], [(1, ("work", P, (0, 0, "take 1 0"), ()))]),
        (("come", 1, (0, 0, 0)), [("work", P)], [(0, ("did", P, (0, 30), ()))]),
        (("come", 0, (1, 0, 0)), [], [(0, ("work", P, (1, 30, "add 0 1 5"), ()))]),
        (("come", 0, (0, 1, 0)), [("work", P)], [(0, ("did", P, (1, 30), ()))]),
        (("come", 0, (0, 2, 0)), [], [(0, ("ready", P, (0, 1), ())), (1, ("ready", P, (0, 1), ()))]),
        (("come", 1, (0, 3, 1)), [("ready", P, (0, 1), (("read", 0, 0),), ())], [(0, ("yes", P, (), ()))]),
        (("come", 0, (0, 3, 0)), [("ready", P, (0, 1), (("change", 1, 1),), ((1, 25),))], [(0, ("yes", P, (), ()))]),
        (("come", 0, (1, 1, 0)), [], []),
        (("come", 0, (0, 4, 0)), [("end", P, "done", (30, 30))], [(1, ("tell", P, (), NEWS))]),
        (("come", 1, (0, 6, 0)), [("end", P, "done", ())], []),
        (("turn", 0), [], []),
        (("fall", 2), [], []),
        (("rise", 2), [], []),
    ]

    def test_what_each_deed_tells(self):
        room = Room(CELLS)
        counts = [0, 0, 0]
        for deed, rows, letters in self.DEEDS:
            h = deed[1]
            names = [(h, counts[h], m) for m in range(len(letters))]
            counts[h] += 1
            told = [("row", row) for row in rows]
            told += [("send", name, to, letter) for name, (to, letter) in zip(names, letters)]
            self.assertEqual(room.do(deed), told)

    def test_what_is_kept(self):
        room = Room(CELLS)
        story, letters = [], []
        for deed, rows, sent in self.DEEDS:
            told = room.do(deed)
            story += [(deed[1], row) for row in rows]
            letters += [one[1:] for one in told if one[0] == "send"]
            self.assertEqual(room.story(), story)
            self.assertEqual(room.letters(), letters)
        for h in range(3):
            self.assertEqual(room.book(h), [row for there, row in story if there == h])
        self.assertEqual([room.cells_of(h) for h in range(3)], [[10, 25], [30], [40, 50]])
        self.assertEqual([room.knows(h, P) for h in range(3)], ["done", "done", None])
        self.assertIsNone(room.knows(0, (0, 1)))

    def test_a_new_room(self):
        room = Room(CELLS)
        self.assertEqual((room.letters(), room.story()), ([], []))
        for h in range(3):
            self.assertEqual((room.book(h), room.cells_of(h), room.standing(h)), ([], CELLS[h], True))
            self.assertEqual(room.state(h), (True, (), tuple(CELLS[h]), (), ()))

    def test_a_turn(self):
        room = begun("held take 1 0")
        told = [("send", (0, 1, 0), 1, ("work", P, (0, 0, "take 1 0"), ()))]
        self.assertEqual(room.do(("turn", 0)), told)
        room.do(("come", 1, (0, 0, 0)))
        self.assertEqual(room.do(("turn", 1)), [("send", (1, 1, 0), 0, ("ask", P, (), ()))])

    def test_the_works_have_their_turn_ahead_of_the_leads(self):
        room = Room([[1], [2]])
        room.do(("begin", 1, "held add 0 0 1"))
        room.do(("come", 0, (1, 0, 0)))
        room.do(("begin", 0, "held take 1 0"))
        room.do(("begin", 0, "walked add 1 0 7"))
        self.assertEqual([(one[1], one[2], one[3][0], one[3][1]) for one in room.do(("turn", 0))], [
            ((0, 3, 0), 1, "ask", (1, 0)), ((0, 3, 1), 1, "work", (0, 0)), ((0, 3, 2), 1, "walk", (0, 1))])

    def test_the_fourth_turn(self):
        room = begun("held take 1 0")
        for k in range(3):
            self.assertEqual([one[0] for one in room.do(("turn", 0))], ["send"])
        self.assertEqual(room.do(("turn", 0)), [
            ("row", ("end", P, "broken", ())), ("send", (0, 4, 0), 1, ("tell", P, (), ((P, "broken"),)))])
        self.assertEqual(room.do(("turn", 0)), [])

    def test_rows_lie_ahead_of_letters(self):
        """A walked pact whose letters and rows are put on one behind the other in one deed."""
        room = begun("walked plus 3; give 1 0")
        self.assertEqual(room.story(), [(0, ("begin", P, "walked plus 3; give 1 0")), (0, ("end", P, "done", (3,)))])
        self.assertEqual(room.letters(), [((0, 0, 0), 1, ("walk", P, (1, 3, "give 1 0"), NEWS))])
        room.do(("come", 1, (0, 0, 0)))
        self.assertEqual(room.do(("come", 0, (1, 0, 0))), [("row", ("over", P))])
        self.assertEqual(room.cells_of(1), [3])

    def test_names_of_pacts(self):
        room = Room(CELLS)
        for h, k in ((0, 0), (0, 1), (2, 0), (0, 2), (1, 0)):
            self.assertEqual(room.do(("begin", h, "held plus 1"))[0][1][1], (h, k))
        # No begin row is written ahead of all, so the number is not used.
        room.do(("falling", 0, ("begin", 2, "held plus 1")))
        room.do(("rise", 2))
        self.assertEqual(room.do(("falling", 1, ("begin", 2, "held plus 1")))[0][1][1], (2, 1))
        room.do(("rise", 2))
        self.assertEqual(room.do(("begin", 2, "held plus 1"))[0][1][1], (2, 2))


class NameTest(unittest.TestCase):
    """The number in a letter's name counts all deeds at its house that were not refused."""

    def next_number(self, room, h):
        return [one[1][1] for one in room.do(("begin", h, "held take 0 0")) if one[0] == "send"][0]

    def test_all_deeds_count(self):
        room = Room(CELLS)
        deeds = [("turn", 1), ("begin", 1, "held plus 1"), ("fall", 1), ("rise", 1), ("falling", 0, ("turn", 1)),
                 ("falling", 0, ("rise", 1)), ("falling", 3, ("rise", 1)), ("rise", 1),
                 ("falling", 1, ("begin", 1, "held plus 1")), ("rise", 1)]
        for deed in deeds:
            room.do(deed)
        self.assertEqual(self.next_number(room, 1), len(deeds))
        self.assertEqual(self.next_number(room, 0), 0)

    def test_refused_ones_do_not_count(self):
        room = Room(CELLS)
        wrong = [("rise", 1), ("come", 1, (0, 0, 0)), ("begin", 1, "held"), ("begin", 1, "held take 5 0"),
                 ("begin", 1, "walked give 0 0; need 0"), ("falling", 0, ("rise", 1)),
                 ("falling", 2, ("begin", 1, "none"))]
        for deed in wrong:
            self.assertRaises(ValueError, room.do, deed)
        self.assertEqual(self.next_number(room, 1), 0)

    def test_letters_of_one_deed(self):
        room = begun("held take 0 0; take 1 0; take 2 0")
        all_come(room)
        ready = [(name, to) for name, to, letter in room.letters() if letter[0] == "ready"]
        self.assertEqual([(name[0], name[2], to) for name, to in ready], [(0, 0, 0), (0, 1, 1), (0, 2, 2)])
        self.assertEqual(len({name[1] for name, to in ready}), 1)


class RoadTest(unittest.TestCase):
    """Letters come twice, late, out of order, never."""

    def test_twice(self):
        room = begun("held add 1 0 5; take 2 0")
        did = ("did", P, (0, 0), ())
        self.assertEqual(room.do(("come", 1, (0, 0, 0))), [("row", ("work", P)), ("send", (1, 0, 0), 0, did)])
        self.assertEqual(room.do(("come", 1, (0, 0, 0))), [("send", (1, 1, 0), 0, did)])
        self.assertEqual(len(room.do(("come", 0, (1, 1, 0)))), 1)
        # The same answer once more is passed over.
        self.assertEqual(room.do(("come", 0, (1, 0, 0))), [])
        self.assertEqual(room.do(("come", 0, (1, 1, 0))), [])

    def test_late(self):
        room = begun("held add 1 0 5")
        all_come(room)
        tell = ("send", (1, 3, 0), 0, ("tell", P, (), NEWS))
        self.assertEqual(room.do(("come", 1, (0, 0, 0))), [tell])
        self.assertEqual(room.cells_of(1), [35])
        self.assertEqual(room.do(("come", 0, (1, 3, 0))), [])

    def test_out_of_order(self):
        room = begun("walked add 1 0 5; add 1 0 7; take 2 0")
        for deed in [("come", 1, (0, 0, 0)), ("come", 0, (1, 0, 0)), ("turn", 0), ("turn", 0), ("turn", 0)]:
            room.do(deed)
        broken = room.do(("turn", 0))
        self.assertEqual(broken[0], ("row", ("end", P, "broken", ())))
        self.assertEqual(broken[1][3][0:3], ("undo", P, (2, "take 2 0")))
        # The undo of the last step comes ahead of its walk, which then does nothing.
        void = [("row", ("end", P, "broken", ())), ("row", ("void", P, 2))]
        self.assertEqual(room.do(("come", 2, broken[1][1]))[:2], void)
        undo = room.do(("come", 0, (2, 0, 0)))
        self.assertEqual(undo[0][3][2], (1, "add 1 0 7"))
        void = [("row", ("end", P, "broken", ())), ("row", ("void", P, 1))]
        self.assertEqual(room.do(("come", 1, undo[0][1]))[:2], void)
        self.assertEqual(room.do(("come", 1, (0, 1, 0))), [])
        self.assertEqual(room.cells_of(1), [35])

    def test_never(self):
        room = begun("held add 1 0 5")
        for k in range(4):
            room.do(("turn", 0))
        self.assertEqual(room.knows(0, P), "broken")
        self.assertEqual((room.book(1), room.cells_of(1)), ([], [30]))

    def test_letters_stay_on_the_road(self):
        room = begun(TEXT)
        all_come(room)
        before = room.letters()
        for name, to, letter in before:
            room.do(("come", to, name))
        self.assertEqual(room.letters()[:len(before)], before)
        self.assertEqual(room.cells_of(0), [10, 25])

    def test_a_letter_from_a_fallen_house_comes(self):
        room = begun("held take 1 0")
        room.do(("fall", 0))
        self.assertEqual(len(room.do(("come", 1, (0, 0, 0)))), 2)
        room.do(("rise", 0))
        self.assertEqual(room.do(("come", 0, (1, 0, 0))), [])


class FallingTest(unittest.TestCase):
    """A house falls in a deed: j tells where."""

    def told(self, deeds, j, deed):
        """What a falling tells, and what its deed would have told; whether the house is as fallen."""
        plain, room = Room(CELLS), Room(CELLS)
        for one in deeds:
            plain.do(one)
            room.do(one)
        full = plain.do(deed)
        told = room.do(("falling", j, deed))
        h = deed[1]
        self.assertFalse(room.standing(h))
        plain_state = plain.state(h)
        state = room.state(h)
        self.assertEqual(state[0], False)
        self.assertEqual(state[3:], ((), ()))
        if j:
            self.assertEqual(state[1:3], plain_state[1:3])
            self.assertEqual(room.story(), plain.story())
        rows = [one for one in full if one[0] == "row"]
        sends = [one for one in full if one[0] == "send"]
        self.assertEqual(room.letters(), (plain.letters()[:len(plain.letters()) - len(sends)]
                                          + [one[1:] for one in told if one[0] == "send"]))
        return told, rows, sends

    def check(self, deeds, deed, many_rows, many_letters):
        for j in range(7):
            told, rows, sends = self.told(deeds, j, deed)
            self.assertEqual((len(rows), len(sends)), (many_rows, many_letters))
            self.assertEqual(told, [] if j == 0 else rows + sends[:j - 1])
        self.assertEqual(self.told(deeds, 10 ** 30, deed)[0], rows + sends)

    def test_around_a_begin(self):
        self.check([], ("begin", 0, "held take 1 0"), 1, 1)
        self.check([], ("begin", 0, "held plus 1; need 2"), 2, 0)
        self.check([], ("begin", 1, "walked plus 4; give 0 0; take 2 0"), 2, 1)

    def ready_sent(self):
        text = "held add 0 0 1; add 1 0 1; add 2 0 1"
        return [("begin", 0, text), ("come", 0, (0, 0, 0)), ("come", 0, (0, 1, 0)), ("come", 1, (0, 2, 0)),
                ("come", 0, (1, 0, 0)), ("come", 2, (0, 3, 0))]

    def test_around_a_come(self):
        self.check(self.ready_sent(), ("come", 0, (2, 0, 0)), 0, 3)
        deeds = self.ready_sent() + [("come", 0, (2, 0, 0))]
        self.check(deeds, ("come", 1, (0, 4, 1)), 1, 1)

    def test_around_a_turn(self):
        deeds = self.ready_sent() + [("come", 0, (2, 0, 0)), ("come", 1, (0, 4, 1))]
        self.check(deeds, ("turn", 1), 0, 2)
        self.check(deeds, ("turn", 0), 0, 3)
        self.check(deeds + [("turn", 0)] * 3, ("turn", 0), 1, 2)

    def test_around_a_rise(self):
        deeds = self.ready_sent() + [("fall", 0)]
        self.check(deeds, ("rise", 0), 1, 0)
        self.check([("fall", 2)], ("rise", 2), 0, 0)

    def test_ahead_of_all(self):
        """With j = 0 nothing of the deed is done: the letter's news are not taken, the house stays as it was."""
        room = begun("held add 1 0 5")
        all_come(room)
        room.do(("begin", 0, "held take 2 0"))
        told = room.letters()[-1]
        self.assertEqual(told[2][3], NEWS)
        self.assertEqual(room.do(("falling", 0, ("come", 2, told[0]))), [])
        self.assertEqual((room.book(2), room.knows(2, P), room.standing(2)), ([], None, False))
        room.do(("rise", 2))
        self.assertEqual(room.do(("falling", 1, ("come", 2, told[0]))),
                         [("row", ("end", P, "done", ())), ("row", ("work", (0, 1)))])
        self.assertEqual((room.knows(2, P), room.standing(2)), ("done", False))

    def test_a_fallen_house_stays_fallen_ahead_of_a_rise(self):
        room = begun("held take 1 0")
        room.do(("fall", 0))
        self.assertEqual(room.do(("falling", 0, ("rise", 0))), [])
        self.assertFalse(room.standing(0))
        self.assertIsNone(room.knows(0, P))
        self.assertEqual(room.do(("falling", 1, ("rise", 0))), [("row", ("end", P, "broken", ()))])
        self.assertFalse(room.standing(0))
        self.assertEqual(room.do(("rise", 0)), [])
        self.assertTrue(room.standing(0))

    def test_letters_that_were_cut_off_are_not_on_the_road(self):
        room = Room(CELLS)
        for deed in self.ready_sent():
            room.do(deed)
        told = room.do(("falling", 2, ("come", 0, (2, 0, 0))))
        self.assertEqual([one[1] for one in told], [(0, 4, 0)])
        self.assertRaises(NoLetter, room.do, ("come", 1, (0, 4, 1)))
        self.assertRaises(NoLetter, room.do, ("come", 2, (0, 4, 2)))


def come_till(room, h, word):
    """Letters come, each once, till house h has such a row; tells how many came."""
    at = 0
    while not any(row[0] == word for row in room.book(h)):
        name, to, letter = room.letters()[at]
        room.do(("come", to, name))
        at += 1
    return at


class RiseTest(unittest.TestCase):
    """What is there again behind a fall."""

    def test_lost_pacts(self):
        room = Room(CELLS)
        room.do(("begin", 2, "held add 0 0 1"))
        room.do(("begin", 0, "held take 1 0"))
        room.do(("begin", 0, "walked add 1 0 1; add 2 0 1"))
        room.do(("begin", 1, "held plus 1; add 0 1 2"))
        for name in ((2, 0, 0), (1, 0, 0)):
            room.do(("come", 0, name))
        room.do(("fall", 0))
        # By rising names, with nothing sent, the walked one too.
        lost = [(0, 0), (0, 1), (1, 0), (2, 0)]
        self.assertEqual(room.do(("rise", 0)), [("row", ("end", p, "broken", ())) for p in lost])
        self.assertEqual(room.state(0)[3:], ((), ()))
        news = tuple((p, "broken") for p in lost)
        # The held ones have no lead any more; the walked one's undoing begins at the turn.
        self.assertEqual(room.do(("turn", 0)), [("send", (0, 6, 0), 2, ("undo", (0, 1), (1, "add 2 0 1"), news))])

    def test_bound_pacts(self):
        room = begun("held mean 1 0; add 1 0 4; take 0 0; sum 2 0 1; plus 3; give 2 1")
        came = come_till(room, 2, "ready")
        before = room.state(2)
        room.do(("fall", 2))
        self.assertEqual(room.state(2), (False, before[1], before[2], (), ()))
        self.assertEqual(room.do(("rise", 2)), [])
        self.assertEqual(room.state(2), before)
        self.assertEqual(before[3], ((P, ("read", 0, 1)), (P, ("change", 1, 1))))
        # It still says yes, asks at its turn, and its draft is there.
        self.assertEqual([one[2:] for one in room.do(("turn", 2))],
                         [(h, ("ask", P, (0, 1, 2), ())) for h in (0, 1)])
        all_come(room, came)
        self.assertEqual((room.knows(2, P), room.cells_of(2)), ("done", [40, 93]))

    def test_a_walked_pact_that_is_done_goes_on_at_the_turn(self):
        text = "walked add 1 0 1; plus 2; give 2 0; add 1 0 5; plus 1; take 0 0"
        room = begun(text)
        room.do(("come", 1, (0, 0, 0)))
        told = room.do(("come", 0, (1, 0, 0)))
        self.assertEqual(told[0], ("row", ("end", P, "done", (0, 2))))
        room.do(("come", 2, told[1][1]))
        room.do(("fall", 0))
        self.assertEqual(room.do(("rise", 0)), [])
        self.assertEqual([one[3][2] for one in room.do(("turn", 0))], [(2, 2, "give 2 0")])
        # Its answers count again, and the rest goes as ever.
        start = len(room.letters()) - 1
        all_come(room, start)
        self.assertEqual(room.book(0)[-1], ("over", P))
        self.assertEqual([room.cells_of(h) for h in range(3)], [[10, 20], [36], [2, 50]])
        room.do(("fall", 0))
        room.do(("rise", 0))
        self.assertEqual(room.do(("turn", 0)), [])

    def test_a_walked_pact_that_is_broken_is_undone_from_the_last_step_again(self):
        room = begun("walked add 1 0 1; plus 2; add 2 0 4; need 100; give 0 0")
        all_but = [("come", 1, (0, 0, 0)), ("come", 0, (1, 0, 0)), ("come", 2, (0, 1, 0))]
        for deed in all_but:
            room.do(deed)
        told = room.do(("come", 0, (2, 0, 0)))
        self.assertEqual(told[0], ("row", ("end", P, "broken", ())))
        self.assertEqual(room.do(("come", 2, told[1][1]))[1], ("row", ("undone", P, 2, ((0, 40),))))
        self.assertEqual([one[3][2] for one in room.do(("come", 0, (2, 1, 0)))], [(0, "add 1 0 1")])
        room.do(("fall", 0))
        self.assertEqual(room.do(("rise", 0)), [])
        start = len(room.letters())
        self.assertEqual([one[3][2] for one in room.do(("turn", 0))], [(2, "add 2 0 4")])
        all_come(room, start)
        self.assertEqual(room.book(0)[-1], ("over", P))
        self.assertEqual([room.cells_of(h) for h in range(3)], CELLS)
        self.assertEqual([row[0] for row in room.book(2)], ["walked", "end", "undone"])

    def test_a_walked_pact_that_was_lost(self):
        """Its leader fell ahead of any letter: each of its steps is void, and then it is over."""
        room = Room(CELLS)
        room.do(("falling", 1, ("begin", 0, "walked take 1 0; plus 1; add 2 0 1")))
        self.assertEqual(room.do(("rise", 0)), [("row", ("end", P, "broken", ()))])
        self.assertEqual(room.letters(), [])
        undo = room.do(("turn", 0))
        self.assertEqual([one[1:3] + one[3][:3] for one in undo], [((0, 2, 0), 2, "undo", P, (2, "add 2 0 1"))])
        all_come(room)
        for h, i in ((2, 2), (1, 0)):
            self.assertEqual(room.book(h), [("end", P, "broken", ()), ("void", P, i)])
        self.assertEqual(room.book(0)[1:], [("end", P, "broken", ()), ("over", P)])

    def test_a_lead_that_comes_up_counts_no_turns(self):
        room = begun("walked add 1 0 1; add 2 0 1")
        room.do(("fall", 0))
        room.do(("rise", 0))
        letters = [[one[1:3] + one[3][:3] for one in room.do(("turn", 0))] for k in range(6)]
        self.assertEqual(letters, [[((0, 3 + k, 0), 2, "undo", P, (1, "add 2 0 1"))] for k in range(6)])

    def test_works_that_come_up_answer_from_the_book(self):
        room = begun("walked add 1 0 1; add 2 0 1")
        went = room.do(("come", 1, (0, 0, 0)))[-1]
        room.do(("fall", 1))
        room.do(("rise", 1))
        self.assertEqual(room.do(("come", 1, (0, 0, 0))), [("send", (1, 3, 0)) + went[2:]])
        self.assertEqual(room.cells_of(1), [31])

    def test_waiting_steps_are_gone(self):
        room = Room([[5], [6], [7]])
        room.do(("begin", 1, "held add 0 0 1; take 1 0"))
        room.do(("begin", 2, "held add 0 0 1"))
        room.do(("come", 0, (1, 0, 0)))
        room.do(("come", 0, (2, 0, 0)))
        self.assertEqual(room.state(0)[3:], (((( 1, 0), ("change", 0, 0)),), (((2, 0), ("change", 0, 0)),)))
        room.do(("fall", 0))
        # The pact that waits has no work row, so it is not lost: its letter may come again.
        self.assertEqual(room.do(("rise", 0)), [("row", ("end", (1, 0), "broken", ()))])
        self.assertEqual([one[0] for one in room.do(("come", 0, (2, 0, 0)))], ["row", "send"])


class RefusalTest(unittest.TestCase):
    """What is refused, the first in the order, and that it changes nothing."""

    def setUp(self):
        # House 1 is fallen; a letter lies on the road to each house.
        self.room = Room(CELLS)
        self.room.do(("begin", 0, "held take 1 0"))
        self.room.do(("begin", 0, "held take 2 0"))
        self.room.do(("begin", 2, "held take 0 0"))
        self.room.do(("come", 2, (0, 1, 0)))
        self.room.do(("fall", 1))
        self.before = whole(self.room)

    def check(self, error, deed, at=None):
        for one in [deed] + [("falling", j, deed) for j in (0, 1, 2, 9) if deed[0] != "fall"]:
            with self.assertRaises(error) as caught:
                self.room.do(one)
            self.assertEqual(type(caught.exception), error)
            if at is not None:
                self.assertEqual(caught.exception.at, at)
            self.assertEqual(whole(self.room), self.before)

    def tearDown(self):
        # Nothing has changed that shows later: names, pacts' numbers, patience, what each house does.
        other = Room(CELLS)
        for deed in [("begin", 0, "held take 1 0"), ("begin", 0, "held take 2 0"), ("begin", 2, "held take 0 0"),
                     ("come", 2, (0, 1, 0)), ("fall", 1)]:
            other.do(deed)
        later = [("begin", 0, "held plus 1; add 0 1 4"), ("rise", 1), ("come", 1, (0, 0, 0)), ("turn", 0), ("turn", 0),
                 ("turn", 0), ("turn", 0), ("turn", 1), ("turn", 2), ("come", 0, (2, 0, 0)), ("turn", 0)]
        for deed in later:
            self.assertEqual(self.room.do(deed), other.do(deed))
        self.assertEqual(whole(self.room), whole(other))

    def test_no_house(self):
        for h in (3, 4, 10 ** 30, -1, -3):
            for deed in [("turn", h), ("fall", h), ("rise", h), ("begin", h, "held plus 1"), ("come", h, (0, 0, 0))]:
                self.check(NoHouse, deed)

    def test_no_house_ahead_of_all(self):
        self.check(NoHouse, ("come", 3, (5, 5, 5)))
        self.check(NoHouse, ("begin", 3, "none"))
        self.check(NoHouse, ("begin", 3, "held take 9 9"))
        self.check(NoHouse, ("begin", 3, "walked give 0 0; need 1"))

    def test_no_house_when_asked(self):
        for h in (3, -1):
            for ask in (self.room.book, self.room.cells_of, self.room.standing, self.room.state):
                self.assertRaises(NoHouse, ask, h)
            self.assertRaises(NoHouse, self.room.knows, h, P)

    def test_fallen(self):
        for deed in [("turn", 1), ("fall", 1), ("begin", 1, "held plus 1"), ("come", 1, (0, 0, 0))]:
            self.check(Fallen, deed)

    def test_fallen_ahead_of_letter_and_text(self):
        for name in ((0, 1, 0), (7, 0, 0)):
            self.check(Fallen, ("come", 1, name))
        for text in ("none", "held take 9 9", "walked give 0 0; need 1"):
            self.check(Fallen, ("begin", 1, text))

    def test_standing(self):
        for h in (0, 2):
            self.check(Standing, ("rise", h))

    def test_no_letter(self):
        # Not sent: another deed, another place, another house; or to another house.
        for name in ((0, 0, 1), (0, 2, 0), (0, 5, 0), (1, 0, 0), (9, 0, 0), (0, 0, -1), (2, 1, 1)):
            for h in (0, 2):
                self.check(NoLetter, ("come", h, name))
        self.check(NoLetter, ("come", 2, (0, 0, 0)))
        self.check(NoLetter, ("come", 0, (0, 1, 0)))
        self.check(NoLetter, ("come", 2, (2, 0, 0)))

    def test_texts(self):
        self.check(NoText, ("begin", 0, "none"), -1)
        self.check(NoText, ("begin", 0, "held"), -1)
        self.check(NoText, ("begin", 0, "held plus 1; plus; take 9 9"), 1)
        self.check(NoText, ("begin", 2, "walked " + "; ".join(["plus 1"] * 13)), -1)
        self.check(NoPlace, ("begin", 0, "held take 0 0; plus 1; take 3 0"), 2)
        self.check(NoPlace, ("begin", 2, "held sum 1 0 1"), 0)
        self.check(NoWayBack, ("begin", 0, "walked need 0; give 2 1; plus 1; need 4; need 5"), 3)

    def test_texts_in_their_order(self):
        self.check(NoText, ("begin", 0, "walked give 0 0; need 1; take 9 9; no"), 3)
        self.check(NoPlace, ("begin", 0, "walked give 0 0; need 1; take 9 9"), 2)


class OwnTest(unittest.TestCase):
    """What is handed in is not changed, and what was told is the asker's own."""

    def test_cells_handed_in(self):
        cells = [[1, 2], [3]]
        room = Room(cells)
        room.do(("begin", 0, "held add 1 0 5; add 0 1 5"))
        all_come(room)
        self.assertEqual(cells, [[1, 2], [3]])
        self.assertEqual([room.cells_of(0), room.cells_of(1)], [[1, 7], [8]])
        cells[0][0] = 77
        cells[1].append(4)
        cells.append([5])
        self.assertEqual([room.cells_of(0), room.cells_of(1)], [[1, 7], [8]])
        self.assertRaises(NoHouse, room.state, 2)
        self.assertRaises(NoPlace, room.do, ("begin", 0, "held take 1 1"))

    def test_lists_told(self):
        room = begun(TEXT)
        first = room.do(("turn", 0))
        before = whole(room)
        for told in (first, room.letters(), room.book(0), room.cells_of(0), room.story()):
            told.append("other")
            told[0] = "none"
            told.reverse()
        self.assertEqual(whole(room), before)
        all_come(room)
        self.assertEqual(room.cells_of(0), [10, 25])

    def test_states_told_before_stay(self):
        room = begun(TEXT)
        state, letters, story = room.state(1), room.letters(), room.story()
        all_come(room)
        self.assertEqual(state, (True, (), (30,), (), ()))
        self.assertEqual((len(letters), len(story)), (1, 1))

    def test_all_within_is_tuples(self):
        room = begun("held add 1 0 5; take 2 0; need 100")
        all_come(room)
        todo = [one for told in whole(room)[:4] for one in told]
        while todo:
            one = todo.pop()
            self.assertNotIsInstance(one, dict)
            if isinstance(one, tuple):
                self.assertFalse(any(isinstance(part, list) for part in one))
                todo += one


class StateTest(unittest.TestCase):
    def waits(self):
        """Pact (1, 0) holds two locks at house 0, (2, 0) one, and (0, 0) waits."""
        room = Room(CELLS)
        room.do(("begin", 1, "held take 0 0; sum 0 0 1; take 2 1"))
        room.do(("begin", 2, "held take 0 1"))
        room.do(("begin", 0, "held add 0 1 6"))
        for h, name in ((0, (1, 0, 0)), (0, (2, 0, 0)), (1, (0, 1, 0)), (0, (1, 1, 0)), (0, (0, 0, 0))):
            room.do(("come", h, name))
        return room

    HELD = (((1, 0), ("read", 0, 0)), ((2, 0), ("read", 1, 1)), ((1, 0), ("read", 0, 1)))
    WAITING = (((0, 0), ("change", 1, 1)),)

    def test_standing(self):
        room = self.waits()
        state = room.state(0)
        self.assertEqual(state, (True, tuple(room.book(0)), (10, 20), self.HELD, self.WAITING))
        self.assertEqual([row[0] for row in state[1]], ["begin", "work", "work"])

    def test_fallen(self):
        room = self.waits()
        rows = room.state(0)[1]
        room.do(("fall", 0))
        self.assertEqual(room.state(0), (False, rows, (10, 20), (), ()))
        self.assertEqual((room.cells_of(0), room.book(0), room.standing(0)), ([10, 20], list(rows), False))

    def test_fallen_with_changed_cells(self):
        room = begun("held add 1 0 5")
        all_come(room)
        room.do(("fall", 1))
        self.assertEqual((room.cells_of(1), room.knows(1, P), room.state(1)[2]), ([35], "done", (35,)))

    def test_a_story_over_several_houses(self):
        room = begun("walked add 1 0 5; add 2 1 5")
        all_come(room)
        self.assertEqual(room.story(), [
            (0, ("begin", P, "walked add 1 0 5; add 2 1 5")), (1, ("walked", P, 0, ((0, 35),), 0)),
            (2, ("walked", P, 1, ((1, 55),), 0)), (0, ("end", P, "done", (0, 0))), (0, ("over", P))])


class ModelTest(unittest.TestCase):
    """Each deed of drawn histories beside houses of a second telling."""

    def test_beside_the_model(self):
        for seed in range(300):
            chance = random.Random(seed)
            cells = draw_cells(chance)
            one, other = Drawn(cells), Roads(cells, Model)
            draw = Draw(seed, one)
            counts = [0] * len(cells)
            for k in range(chance.choice((20, 60, 120, 200))):
                deed = draw.deed()
                h = deed[2][1] if deed[0] == "falling" else deed[1]
                rows, letters = other.do(deed)
                told = [("row", row) for row in rows]
                told += [("send", (h, counts[h], m)) + letter for m, letter in enumerate(letters)]
                counts[h] += 1
                self.assertEqual(one.do(deed), told)
                model = other.houses[h]
                locks = (tuple(model.held()), tuple(model.waiting()))
                self.assertEqual(one.room.state(h), (model.stands, tuple(model.book), tuple(model.cells())) + locks)
            self.assertEqual(one.room.story(), other.story)
            self.assertEqual([(name[0], to, letter) for name, to, letter in one.room.letters()], other.sent)


if __name__ == "__main__":
    unittest.main()
