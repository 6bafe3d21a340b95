"""Rooms behind drawn histories, and what tests ask of any history."""

import random

from pactroom.room import Room
from roads import Draw, draw_cells


class Drawn:
    """A room whose deeds are kept. Draw sees it as roads: letters by their numbers in the order sent."""

    def __init__(self, cells):
        self.first = [list(values) for values in cells]
        self.room = Room(cells)
        self.houses = [Seen(self.room, h) for h in range(len(cells))]
        self.sent = []
        self.deeds = []

    def named(self, deed):
        """The deed as a room takes it."""
        if deed[0] == "falling":
            return deed[:2] + (self.named(deed[2]),)
        return deed[:2] + (self.sent[deed[2]][3],) if deed[0] == "come" else deed

    def do(self, deed):
        deed = self.named(deed)
        told = self.room.do(deed)
        self.deeds.append(deed)
        self.sent += [(one[1][0], one[2], one[3], one[1]) for one in told if one[0] == "send"]
        return told


class Seen:
    def __init__(self, room, h):
        self.room = room
        self.h = h

    def is_fallen(self):
        return not self.room.standing(self.h)


def drawn(seed, lengths=(20, 60, 120, 300)):
    """A room, with the deeds done in it, behind a drawn history."""
    chance = random.Random(seed)
    one = Drawn(draw_cells(chance))
    draw = Draw(seed, one)
    for k in range(chance.choice(lengths)):
        one.do(draw.deed())
    return one
