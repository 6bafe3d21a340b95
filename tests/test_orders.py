import copy
import random
import unittest

from drawn import drawn
from model import do_step, house_of
from pactroom.errors import NoFit
from pactroom.orders import paper, played
from pactroom.room import Room
from roads import draw_text

P = (0, 0)
Q = (1, 0)
HELD = "held take 0 0; plus -3; need 0; give 1 1; add 0 0 2"
WALKED = "walked add 0 0 5; plus 2; need 1; take 1 0; plus 1; add 1 1 7; plus 4; give 0 1; take 0 0"
CELLS = [[10, 20], [30, 40]]

# What the steps of WALKED tell on CELLS.
STEPS = [("step", P, WALKED, 0, ((0, 15),), 0), ("step", P, WALKED, 3, (), 30),
         ("step", P, WALKED, 5, ((1, 47),), 31), ("step", P, WALKED, 7, ((1, 35),), 35),
         ("step", P, WALKED, 8, (), 15)]
UNDOS = [("undo", P, WALKED, 5, ((1, 40),)), ("undo", P, WALKED, 3, ()), ("undo", P, WALKED, 0, ((0, 10),))]
PACT = ("pact", Q, HELD, (10, 7, 7, 7, 7))


def all_come(room):
    at = 0
    while at < len(room.letters()):
        name, to, letter = room.letters()[at]
        room.do(("come", to, name))
        at += 1


class PaperTest(unittest.TestCase):
    def test_of_none(self):
        self.assertEqual(paper([]), [])
        self.assertEqual(paper([(0, ("begin", P, "held plus 1"))]), [])

    def test_a_held_pact(self):
        story = [(1, ("begin", Q, HELD)), (0, ("work", Q)), (1, ("work", Q)),
                 (0, ("ready", Q, (0, 1), (("change", 0, 0),), ((0, 12),))),
                 (1, ("ready", Q, (0, 1), (("change", 1, 1),), ((1, 7),))),
                 (1, ("end", Q, "done", (10, 7, 7, 7, 7))), (0, ("end", Q, "done", ()))]
        self.assertEqual(paper(story), [PACT])
        # At another house than the leader, or broken, it is no entry.
        self.assertEqual(paper(story[:-2] + story[-1:]), [])
        self.assertEqual(paper(story[:-2] + [(1, ("end", Q, "broken", ())), (0, ("end", Q, "broken", ()))]), [])

    def test_walked_pacts(self):
        story = [(2, ("begin", (2, 4), WALKED)), (0, ("walked", (2, 4), 0, ((0, 15),), 0)),
                 (1, ("walked", (2, 4), 3, (), 30)), (2, ("end", (2, 4), "broken", ())), (1, ("void", (2, 4), 5)),
                 (1, ("undone", (2, 4), 3, ())), (0, ("undone", (2, 4), 0, ((0, 10),))), (2, ("over", (2, 4)))]
        self.assertEqual(paper(story), [
            ("step", (2, 4), WALKED, 0, ((0, 15),), 0), ("step", (2, 4), WALKED, 3, (), 30),
            ("undo", (2, 4), WALKED, 3, ()), ("undo", (2, 4), WALKED, 0, ((0, 10),))])

    def test_a_walked_pact_done_is_told_by_its_steps(self):
        story = [(0, ("begin", P, "walked plus 1; give 1 0")), (0, ("end", P, "done", (1,))),
                 (1, ("walked", P, 1, ((0, 1),), 1)), (0, ("over", P))]
        self.assertEqual(paper(story), [("step", P, "walked plus 1; give 1 0", 1, ((0, 1),), 1)])

    def test_each_text_is_its_pacts(self):
        story = [(0, ("begin", P, "held plus 1")), (0, ("end", P, "done", (1,))), (1, ("begin", Q, "held plus 2")),
                 (0, ("begin", (0, 1), "held plus 3")), (0, ("end", (0, 1), "done", (3,))),
                 (1, ("end", Q, "done", (2,)))]
        self.assertEqual(paper(story), [("pact", P, "held plus 1", (1,)), ("pact", (0, 1), "held plus 3", (3,)),
                                        ("pact", Q, "held plus 2", (2,))])

    def test_of_a_room(self):
        room = Room(CELLS)
        room.do(("begin", 1, HELD))
        all_come(room)
        self.assertEqual(paper(room.story()), [PACT])
        room = Room(CELLS)
        room.do(("begin", 0, WALKED))
        all_come(room)
        self.assertEqual(paper(room.story()), STEPS)

    def test_the_story_stays(self):
        room = Room(CELLS)
        room.do(("begin", 1, HELD))
        all_come(room)
        story = room.story()
        kept = list(story)
        paper(story).append("other")
        self.assertEqual(story, kept)
        self.assertEqual(paper(story), [PACT])


class PlayedTest(unittest.TestCase):
    def fits(self, entries, cells):
        self.assertEqual(played(CELLS, entries), cells)

    def no_fit(self, at, entries, cells=CELLS):
        with self.assertRaises(NoFit) as caught:
            played(cells, entries)
        self.assertEqual(caught.exception.at, at)

    def test_none(self):
        self.fits([], CELLS)
        self.assertEqual(played([[]], []), [[]])

    def test_a_pact(self):
        self.fits([PACT], [[12, 20], [30, 7]])
        self.fits([("pact", P, "held plus 3; need 3", (3, 3))], CELLS)
        # It sees what it changed itself.
        text = "held add 0 0 1; take 0 0; give 0 1; sum 0 0 1"
        self.fits([("pact", P, text, (0, 11, 11, 22))], [[11, 11], [30, 40]])

    def test_pacts_one_behind_the_other(self):
        one = ("pact", P, "held add 0 0 1; take 0 0", (0, 11))
        other = ("pact", (5, 9), "held take 0 0; give 1 1", (11, 11))
        self.fits([one, other], [[11, 20], [30, 11]])
        self.no_fit(0, [other, one])

    def test_a_pact_that_does_not_fit(self):
        for hands in [(), (10, 7, 7, 7), (10, 7, 7, 7, 7, 7), (10, 7, 7, 7, 8), (9, 7, 7, 7, 7), (10, 7, 7, 8, 7)]:
            self.no_fit(0, [("pact", Q, HELD, hands)])
        # A need that isn't met, whatever the hands say.
        self.no_fit(0, [("pact", P, "held need 1", (0,))])
        self.no_fit(0, [("pact", P, "held need 1", ())])
        self.no_fit(0, [("pact", P, "held take 0 0; plus -3; need 8", (10, 7, 7))])

    def test_a_pact_whose_text_is_none(self):
        for text in ["", "held", "held ", "take 0 0", "held  take 0 0", "held take 0 0;", "held take 0", "none plus 1"]:
            self.no_fit(0, [("pact", P, text, (10,))])
            self.no_fit(1, [PACT, ("pact", P, text, (10,))])

    def test_a_pact_that_may_not_be_looked_at(self):
        for text in ["held take 2 0", "held take 0 2", "held sum 1 0 2", "held plus 1; take 9 0"]:
            self.no_fit(0, [("pact", P, text, (0,) * (text.count(";") + 1))])

    def test_a_pact_that_is_walked(self):
        self.no_fit(0, [("pact", P, "walked plus 1", (1,))])
        self.no_fit(0, [("pact", P, "walked add 0 0 1", (0,))])

    def test_a_pact_with_an_entry_ahead(self):
        again = ("pact", Q, "held plus 1", (1,))
        self.no_fit(1, [again, again])
        self.no_fit(2, [again, ("pact", P, "held plus 1", (1,)), again])
        self.fits([again, ("pact", (0, 1), "held plus 1", (1,)), ("pact", (1, 1), "held plus 1", (1,))], CELLS)
        step = ("step", P, "walked take 0 0", 0, (), 10)
        self.no_fit(1, [step, ("pact", P, "held plus 1", (1,))])
        self.no_fit(2, [step, ("undo", P, "walked take 0 0", 0, ()), ("pact", P, "held plus 1", (1,))])

    def test_steps(self):
        self.fits(STEPS[:1], [[15, 20], [30, 40]])
        self.fits(STEPS[:3], [[15, 20], [30, 47]])
        self.fits(STEPS, [[15, 35], [30, 47]])

    def test_steps_begin_behind_those_at_no_house(self):
        text = "walked plus 4; need 4; plus 1; give 0 0"
        self.fits([("step", P, text, 3, ((0, 5),), 5)], [[5, 20], [30, 40]])
        for i in (0, 1, 2, 4):
            self.no_fit(0, [("step", P, text, i, ((0, 5),), 5)])
        text = "walked plus 4; need 5; give 0 0"
        self.no_fit(0, [("step", P, text, 2, ((0, 4),), 4)])

    def test_a_step_whose_text_does_not_fit(self):
        for text in ["", "walked", "walked take 0", "held take 0 0", "walked take 2 0", "walked take 0 2",
                     "walked take 0 0; give 0 0; need 1"]:
            self.no_fit(0, [("step", P, text, 0, (), 10)])
        other = WALKED.replace("plus 4", "plus 5")
        self.no_fit(1, STEPS[:1] + [("step", P, other, 3, (), 30)])
        self.no_fit(1, [("pact", P, "held take 0 0; take 1 0", (10, 30)), ("step", P, "walked take 0 0", 0, (), 10)])
        self.no_fit(1, [("pact", P, "held take 0 0", (10,)), ("step", P, "held take 0 0", 0, (), 10)])

    def test_a_step_with_another_number(self):
        self.no_fit(0, [("step", P, WALKED, 3, (), 30)])
        for i in (-1, 0, 1, 2, 4, 5, 8, 9):
            self.no_fit(1, STEPS[:1] + [("step", P, WALKED, i, (), 30)])
        self.no_fit(1, [STEPS[0], STEPS[0]])
        self.no_fit(2, STEPS[:2] + STEPS[3:])
        # Behind the last step there is none.
        for i in (8, 9, 10):
            self.no_fit(5, STEPS + [("step", P, WALKED, i, (), 15)])
        self.no_fit(1, [("step", P, "walked take 0 0; plus 1", 0, (), 10),
                        ("step", P, "walked take 0 0; plus 1", 1, (), 11)])

    def test_a_step_with_another_change_or_hand(self):
        for change in [(), ((0, 14),), ((1, 15),), ((0, 15), (0, 15))]:
            self.no_fit(0, [("step", P, WALKED, 0, change, 0)])
        self.no_fit(0, [("step", P, WALKED, 0, ((0, 15),), 1)])
        self.no_fit(1, STEPS[:1] + [("step", P, WALKED, 3, (), 32)])
        self.no_fit(1, STEPS[:1] + [("step", P, WALKED, 3, ((0, 30),), 30)])
        # The plus between counts.
        self.no_fit(2, STEPS[:2] + [("step", P, WALKED, 5, ((1, 47),), 30)])

    def test_a_step_behind_a_need(self):
        text = "walked take 0 0; need 11; take 1 0"
        first = ("step", P, text, 0, (), 10)
        self.fits([first], CELLS)
        self.no_fit(1, [first, ("step", P, text, 2, (), 30)])
        self.assertEqual(played([[11], [30]], [("step", P, text, 0, (), 11), ("step", P, text, 2, (), 30)]),
                         [[11], [30]])

    def test_a_step_behind_an_undo(self):
        text = "walked take 0 0; add 1 0 1; take 0 1"
        steps = [("step", P, text, 0, (), 10), ("step", P, text, 1, ((0, 31),), 10)]
        undo = ("undo", P, text, 1, ((0, 30),))
        self.fits(steps + [undo], CELLS)
        for i in range(3):
            self.no_fit(3, steps + [undo, ("step", P, text, i, (), 20)])
        self.no_fit(3, steps + [undo, steps[1]])
        self.no_fit(2, steps[:1] + [("undo", P, text, 0, ()), steps[0]])

    def test_steps_of_several_pacts(self):
        text = "walked add 0 0 1; take 0 0"
        entries = [("step", P, text, 0, ((0, 11),), 0), ("step", Q, text, 0, ((0, 12),), 0),
                   ("pact", (3, 3), "held take 0 0; give 1 0", (12, 12)), ("step", P, text, 1, (), 12),
                   ("undo", Q, text, 0, ((0, 11),)), ("step", (0, 1), text, 0, ((0, 12),), 0)]
        self.fits(entries, [[12, 20], [12, 40]])

    def test_undos(self):
        self.fits(STEPS[:3] + UNDOS, CELLS)
        self.fits(STEPS[:3] + UNDOS[:1], [[15, 20], [30, 40]])
        self.fits(STEPS[:1] + UNDOS[2:], CELLS)

    def test_an_undo_reckons_from_what_stands(self):
        between = ("pact", Q, "held add 0 0 100", (0,))
        self.fits(STEPS[:1] + [between, ("undo", P, WALKED, 0, ((0, 110),))], [[110, 20], [30, 40]])
        self.no_fit(2, STEPS[:1] + [between, ("undo", P, WALKED, 0, ((0, 10),))])

    def test_an_undo_that_does_not_fit(self):
        # Nothing ahead; nothing left; another number, text or change.
        self.no_fit(0, UNDOS[2:])
        self.no_fit(2, STEPS[:1] + UNDOS[2:] + UNDOS[2:])
        self.no_fit(2, STEPS[:1] + UNDOS[2:] + [("undo", P, WALKED, 3, ())])
        self.no_fit(3, STEPS[:3] + UNDOS[1:])
        self.no_fit(4, STEPS[:3] + UNDOS[:1] + UNDOS[2:])
        for i in (-1, 1, 2, 3, 4, 5, 99):
            self.no_fit(1, STEPS[:1] + [("undo", P, WALKED, i, ((0, 10),))])
        for change in [(), ((0, 11),), ((1, 10),), ((0, 10), (0, 10))]:
            self.no_fit(1, STEPS[:1] + [("undo", P, WALKED, 0, change)])
        self.no_fit(3, STEPS[:2] + [("undo", P, WALKED, 3, ()), ("undo", P, WALKED, 3, ())])
        self.no_fit(2, STEPS[:2] + [("undo", P, WALKED, 3, ((0, 30),))])
        for text in (WALKED + "; plus 1", "held" + WALKED[6:], "", "walked add 0 0 5"):
            self.no_fit(1, STEPS[:1] + [("undo", P, text, 0, ((0, 10),))])
        self.no_fit(1, STEPS[:1] + [("undo", Q, WALKED, 0, ((0, 10),))])
        self.no_fit(1, [("pact", P, "held add 0 0 1", (0,)), ("undo", P, "held add 0 0 1", 0, ((0, 10),))])

    def test_an_undo_of_a_give(self):
        self.no_fit(4, STEPS[:4] + [("undo", P, WALKED, 7, ())])
        self.no_fit(4, STEPS[:4] + [("undo", P, WALKED, 7, ((1, 20),))])
        # The step behind a give can be undone by itself, but not where a give is left.
        self.no_fit(5, STEPS + [("undo", P, WALKED, 8, ())])
        self.no_fit(4, STEPS[:4] + UNDOS[:1])

    def test_the_first_that_does_not_fit(self):
        wrong = ("pact", P, "held need 1", (0,))
        self.no_fit(0, [wrong, wrong])
        self.no_fit(1, [PACT, wrong, PACT, wrong])

    def test_what_is_handed_in_stays(self):
        cells, entries = copy.deepcopy(CELLS), STEPS[:3] + UNDOS
        for given in (entries, [PACT], STEPS, [PACT, ("pact", P, "held add 0 0 1; need 1", (0,))]):
            kept = list(given)
            try:
                told = played(cells, given)
                told[0][0] = 99
                told.append([])
            except NoFit:
                pass
            self.assertEqual((cells, given), (CELLS, kept))
        told = played(cells, [])
        told[0].append(1)
        self.assertEqual(cells, CELLS)
        cells[1][0] = 77
        self.assertEqual(told[1], [30, 40])

    def test_great_numbers(self):
        text = "held sum 0 0 1; give 0 0"
        great = 10 ** 39
        entries = [("pact", (k, 0), text, ((k + 2) * great,) * 2) for k in range(500)]
        self.assertEqual(played([[great, great]], entries), [[501 * great, great]])


def need_unmet(text, hand):
    return text.startswith("need ") and hand < int(text[5:])


class Slow:
    """A second player: the entries ahead are looked through anew for each one."""

    def __init__(self, cells):
        self.cells = [list(values) for values in cells]
        self.ahead = []

    def play(self, entries):
        for at, entry in enumerate(entries):
            if not self.fits(entry):
                return at
            self.ahead.append(entry)
        return self.cells

    def steps(self, text, manner):
        """The steps of a text that may be looked at, or None; texts here are always of steps."""
        if not text.startswith(manner + " "):
            return None
        steps = text[len(manner) + 1:].split("; ")
        for step in steps:
            home = house_of(step)
            if home is not None:
                last = int(step.split(" ")[3 if step.startswith("sum ") else 2])
                if home >= len(self.cells) or last >= len(self.cells[home]):
                    return None
        gives = [k for k, step in enumerate(steps) if step.startswith("give ")]
        if manner == "walked" and gives and any(step.startswith("need ") for step in steps[gives[0]:]):
            return None
        return steps

    def do(self, text, hand):
        home = house_of(text)
        hand, changes = do_step(text, hand, None if home is None else self.cells[home].__getitem__)
        for cell, value in changes.items():
            self.cells[home][cell] = value
        return hand, tuple(changes.items())

    def fits(self, entry):
        mine = [one for one in self.ahead if one[1] == entry[1]]
        if entry[0] == "pact":
            return self.fits_pact(entry, mine)
        if entry[0] == "step":
            return self.fits_step(entry, mine)
        return self.fits_undo(entry, mine)

    def fits_pact(self, entry, mine):
        steps = self.steps(entry[2], "held")
        if steps is None or mine:
            return False
        hand, hands = 0, []
        for text in steps:
            if need_unmet(text, hand):
                return False
            hand = self.do(text, hand)[0]
            hands.append(hand)
        return tuple(hands) == entry[3]

    def fits_step(self, entry, mine):
        steps = self.steps(entry[2], "walked")
        if steps is None or any(one[2] != entry[2] or one[0] != "step" for one in mine):
            return False
        last, hand = (mine[-1][3], mine[-1][5]) if mine else (-1, 0)
        later = [k for k in range(last + 1, len(steps)) if house_of(steps[k]) is not None]
        if not later or later[0] != entry[3]:
            return False
        for text in steps[last + 1:later[0]]:
            if need_unmet(text, hand):
                return False
            hand = self.do(text, hand)[0]
        hand, change = self.do(steps[entry[3]], hand)
        return (change, hand) == entry[4:]

    def fits_undo(self, entry, mine):
        left = []
        for one in mine:
            if one[2] != entry[2] or one[0] == "pact":
                return False
            if one[0] == "step":
                left.append(one[3])
            else:
                left.remove(one[3])
        steps = entry[2].partition(" ")[2].split("; ")
        if not left or any(steps[k].startswith("give ") for k in left) or max(left) != entry[3]:
            return False
        words = steps[entry[3]].split(" ")
        change = ()
        if words[0] == "add":
            home, cell, amount = [int(word) for word in words[1:]]
            self.cells[home][cell] -= amount
            change = ((cell, self.cells[home][cell]),)
        return change == entry[4]


class DrawnTest(unittest.TestCase):
    """Papers of drawn histories, and such with something in them changed, beside the second player."""

    def told(self, cells, entries):
        try:
            return played(cells, entries)
        except NoFit as refusal:
            return refusal.at

    def changed(self, chance, entries):
        entries = list(entries)
        at = chance.randrange(len(entries))
        kind = chance.randrange(6)
        if kind == 0:
            del entries[at]
        elif kind == 1:
            entries.insert(chance.randrange(len(entries) + 1), entries[at])
        elif kind == 2:
            other = chance.randrange(len(entries))
            entries[at], entries[other] = entries[other], entries[at]
        else:
            entry = list(entries[at])
            part = chance.randrange(1, len(entry))
            entry[part] = self.other(chance, entry[part], part, entries)
            entries[at] = tuple(entry)
        return entries

    def other(self, chance, value, part, entries):
        if part in (1, 2):
            return chance.choice(entries)[part]
        if isinstance(value, int):
            return value + chance.choice((-1, 1))
        if value and isinstance(value[0], int):
            at = chance.randrange(len(value))
            return value[:at] + (value[at] + 1,) + value[at + 1:]
        return value[1:] if value else ((0, 0),)

    def test_papers_with_something_changed(self):
        counts = {"fit": 0, "not": 0}
        for seed in range(250):
            one = drawn(seed)
            entries = paper(one.room.story())
            self.assertEqual(played(one.first, entries), Slow(one.first).play(entries))
            chance = random.Random(seed)
            for k in range(12 if entries else 0):
                given = self.changed(chance, entries)
                told = self.told(one.first, given)
                self.assertEqual(told, Slow(one.first).play(given))
                counts["fit" if isinstance(told, list) else "not"] += 1
        self.assertGreater(min(counts.values()), 100)

    def test_drawn_entries(self):
        """Walks with whatever undos, so that many fit for a while."""
        seen = {}
        for seed in range(400):
            chance = random.Random(seed)
            cells = [[chance.randrange(9) for k in range(2)] for h in range(2)]
            texts = {(0, k): draw_text(chance, cells) for k in range(3)}
            entries = []
            for k in range(12):
                entry = self.draw(chance, texts, entries, cells)
                entries.append(entry)
                told = self.told(cells, entries)
                self.assertEqual(told, Slow(cells).play(entries))
                if not isinstance(told, list):
                    seen[entry[0], "not"] = seen.get((entry[0], "not"), 0) + 1
                    break
                seen[entry[0], "fit"] = seen.get((entry[0], "fit"), 0) + 1
        self.assertEqual(len(seen), 6)
        self.assertGreater(min(seen.values()), 20)

    def draw(self, chance, texts, entries, cells):
        """An entry that may fit: its change and hands are those that come of it, mostly."""
        p = chance.choice(list(texts))
        text = texts[p]
        steps = text.partition(" ")[2].split("; ")
        trial = Slow(cells)
        trial.play(entries)
        if text.startswith("held "):
            hand, hands = 0, []
            for step in steps:
                hand = trial.do(step, hand)[0]
                hands.append(hand)
            return ("pact", p, text, tuple(hands))
        mine = [one for one in entries if one[1] == p]
        done = [one[3] for one in mine if one[0] == "step"]
        if done and chance.randrange(3) == 0:
            undone = [one[3] for one in mine if one[0] == "undo"]
            i = ([k for k in done if k not in undone] + [0])[-1 if chance.randrange(4) else 0]
            words = steps[i].split(" ")
            if words[0] != "add":
                return ("undo", p, text, i, ())
            value = trial.cells[int(words[1])][int(words[2])] - int(words[3])
            return ("undo", p, text, i, ((int(words[2]), value),))
        last, hand = (done[-1], [one for one in mine if one[0] == "step"][-1][5]) if done else (-1, 0)
        i = last + 1
        while i < len(steps) - 1 and house_of(steps[i]) is None:
            hand = trial.do(steps[i], hand)[0]
            i += 1
        i = min(i, len(steps) - 1)
        hand, change = trial.do(steps[i], hand)
        return ("step", p, text, i, change, hand)


if __name__ == "__main__":
    unittest.main()
