"""Who can know: the past of a group of houses, and for a pact it is bound for a way to the outcome, or twins."""

from pactroom.calm import letters_of
from pactroom.errors import NotBound
from pactroom.room import plain_deed, room_behind

# The j of a falling that sends all letters: no deed sends as many.
ALL_SENT = 1000000


def past(cells, deeds, group):
    # Done once, so that a list that is no history is refused as its deed is.
    room_behind(cells, deeds)
    return past_of(deeds, group)


def past_of(deeds, group):
    # At each house these are its first deeds, and a letter's name tells how many of its sender's. So they have the
    # same numbers in the past, and letters the same names.
    numbers = numbers_of(deeds)
    most = dict([(h, len(deeds)) for h in group])
    kept = []
    for k in range(len(deeds) - 1, -1, -1):
        if numbers[k] < most.get(plain_deed(deeds[k])[1], 0):
            deed = deed_of_past(deeds[k])
            kept.append(deed)
            name = letter_taken(deed)
            if name is not None:
                most[name[0]] = max(most.get(name[0], 0), name[1] + 1)
    return list(reversed(kept))


def numbers_of(deeds):
    numbers = []
    counts = {}
    for deed in deeds:
        h = plain_deed(deed)[1]
        numbers.append(counts.get(h, 0))
        counts[h] = counts.get(h, 0) + 1
    return numbers


def deed_of_past(deed):
    # Its letter may lie outside the past, and is not taken in.
    if deed[0] == "falling" and deed[1] == 0 and deed[2][0] == "come":
        return ("fall", deed[2][1])
    return deed


def letter_taken(deed):
    plain = plain_deed(deed)
    return plain[2] if plain[0] == "come" else None


def doubt(cells, deeds, group, p):
    room = room_behind(cells, deeds)
    homes = sorted(group)
    bound = [h for h in homes if is_bound(room, h, p)]
    if not bound:
        raise NotBound("no house of the group is bound for this pact")
    houses = houses_told(room, bound[0], p)
    if any([room.knows(h, p) is not None or h == p[0] or h in houses and h not in bound for h in homes]):
        return ("way", way(room, homes, bound, p))
    shared = without_cuts(past_of(deeds, homes), homes)
    return ("twins", shared + broken_off(p), shared + brought_to_done(room_behind(cells, shared), houses, p))


def is_bound(room, h, p):
    return room.knows(h, p) is None and houses_told(room, h, p) is not None


def houses_told(room, h, p):
    # All houses of the pact, as the ready row in this house's book tells them.
    for row in room.book(h):
        if row[0] == "ready" and row[1] == p:
            return row[2]
    return None


def way(room, homes, bound, p):
    deeds = []
    for h in homes:
        if not room.standing(h):
            letters_of(room, deeds, ("rise", h))
    if p[0] in homes:
        # Its patience comes to an end.
        while room.knows(p[0], p) is None:
            letters_of(room, deeds, ("turn", p[0]))
    for h in bound:
        if room.knows(h, p) is None:
            ask_round(room, deeds, homes, h, p)
    return deeds


def ask_round(room, deeds, homes, h, p):
    # A tell answers the ask, so each goes to h.
    tells = []
    for ask in about(letters_of(room, deeds, ("turn", h)), "ask", p):
        if ask[2] in homes:
            tells.extend(about(letters_of(room, deeds, ("come", ask[2], ask[1])), "tell", p))
    for tell in tells:
        letters_of(room, deeds, ("come", h, tell[1]))


def about(letters, word, p):
    return [one for one in letters if one[3][0] == word and one[3][1] == p]


def without_cuts(deeds, homes):
    # Nobody in the group has seen which letters a falling cut off, nor, where it was the last deed that the group knows
    # of its house, whether that fell at all.
    numbers = numbers_of(deeds)
    lasts = dict([(plain_deed(deeds[k])[1], numbers[k]) for k in range(len(deeds))])
    whole = []
    for k in range(len(deeds)):
        plain = plain_deed(deeds[k])
        if deeds[k][0] != "falling" or deeds[k][1] == 0:
            whole.append(deeds[k])
        elif plain[1] not in homes and numbers[k] == lasts[plain[1]]:
            whole.append(plain)
        else:
            whole.append(("falling", ALL_SENT, plain))
    return whole


def broken_off(p):
    return [("fall", p[0]), ("rise", p[0])]


def brought_to_done(room, houses, p):
    deeds = []
    for h in houses:
        if not is_bound(room, h, p):
            letters_of(room, deeds, ("come", h, letter_name(room, p[0], h, "ready", p)))
    for h in houses:
        letters_of(room, deeds, ("come", p[0], letter_name(room, h, p[0], "yes", p)))
    return deeds


def letter_name(room, sender, to, word, p):
    # The first such letter on the road.
    for one in room.letters():
        if one[0][0] == sender and one[1] == to and one[2][0] == word and one[2][1] == p:
            return one[0]
    return None
