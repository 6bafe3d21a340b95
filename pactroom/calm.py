"""The calm: every house stands, has its turns and gets its letters till nobody has anything more to say."""


def calm(room):
    deeds = []
    homes = list(range(len(room.houses)))
    for h in homes:
        if not room.standing(h):
            letters_of(room, deeds, ("rise", h))
    while is_round_heard(room, deeds, homes):
        pass
    return deeds


def is_round_heard(room, deeds, homes):
    # Whether a letter was sent in this round: a round without any is the last one.
    road = []
    for h in homes:
        road.extend(letters_of(room, deeds, ("turn", h)))
    at = 0
    while at < len(road):
        road.extend(letters_of(room, deeds, ("come", road[at][2], road[at][1])))
        at += 1
    return len(road) > 0


def letters_of(room, deeds, deed):
    # Does the deed, puts it behind the others, and tells what was sent in it.
    told = room.do(deed)
    deeds.append(deed)
    return [one for one in told if one[0] == "send"]
