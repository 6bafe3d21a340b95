"""Papers: what the rows of a story come to, one entry behind the other, and how a paper is played on cells."""

from pactroom.errors import NoFit, NoNeed, NoPlace, NoText, NoWayBack
from pactroom.pacts import look, read_pact


def paper(story):
    texts = dict([(pair[1][1], pair[1][2]) for pair in story if pair[1][0] == "begin"])
    entries = [entry_of(pair[0], pair[1], texts) for pair in story]
    return [entry for entry in entries if entry is not None]


def entry_of(h, row, texts):
    p = row[1]
    if row[0] == "walked":
        return ("step", p, texts[p], row[2], row[3], row[4])
    if row[0] == "undone":
        return ("undo", p, texts[p], row[2], row[3])
    if row[0] == "end" and row[2] == "done" and h == p[0] and texts[p].startswith("held "):
        return ("pact", p, texts[p], row[3])
    return None


def played(cells, entries):
    now = [list(values) for values in cells]
    # By pacts: its entries ahead.
    ahead = {}
    for at in range(len(entries)):
        entry = entries[at]
        before = ahead.setdefault(entry[1], [])
        if not is_fit(now, before, entry):
            raise NoFit(at)
        before.append(entry)
    return now


def is_fit(cells, before, entry):
    # An entry that fits is done on the cells. What one that doesn't has changed by then goes with the refusal.
    try:
        pact = read_pact(entry[2])
        look(pact, [len(values) for values in cells])
        if entry[0] == "pact":
            return is_pact_fit(cells, before, entry, pact)
        if entry[0] == "step":
            return is_step_fit(cells, before, entry, pact)
        return is_undo_fit(cells, before, entry, pact)
    except (NoText, NoPlace, NoWayBack, NoNeed):
        return False


def is_pact_fit(cells, before, entry, pact):
    return pact.manner == "held" and not before and hands_behind(cells, pact.parts, 0) == entry[3]


def is_step_fit(cells, before, entry, pact):
    if pact.manner != "walked" or any([one[0] == "undo" or one[2] != entry[2] for one in before]):
        return False
    start = before[-1][3] + 1 if before else 0
    hand = before[-1][5] if before else 0
    if entry[3] != first_at_house(pact.parts, start):
        return False
    hands = hands_behind(cells, pact.parts[start:entry[3]], hand)
    return step_on(cells, pact.parts[entry[3]], hands[-1] if hands else hand) == (entry[5], entry[4])


def is_undo_fit(cells, before, entry, pact):
    if not before or before[-1][2] != entry[2]:
        return False
    steps = [one[3] for one in before if one[0] == "step"]
    undos = [one for one in before if one[0] == "undo"]
    # Each undo took the last one that was left, and no step lies behind an undo.
    left = steps[:len(steps) - len(undos)]
    if not left or left[-1] != entry[3] or any([pact.parts[k].sure() for k in left]):
        return False
    step = pact.parts[entry[3]]
    changes = step.back(lambda cell: cells[step.house()][cell])
    put(cells, step, changes)
    return changes == entry[4]


def first_at_house(steps, start):
    for k in range(start, len(steps)):
        if steps[k].house() is not None:
            return k
    return None


def hands_behind(cells, steps, hand):
    hands = []
    for step in steps:
        hand = step_on(cells, step, hand)[0]
        hands.append(hand)
    return tuple(hands)


def step_on(cells, step, hand):
    told = step.step_done(hand, lambda cell: cells[step.house()][cell])
    put(cells, step, told[1])
    return told


def put(cells, step, changes):
    for change in changes:
        cells[step.house()][change[0]] = change[1]
