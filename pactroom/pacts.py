"""Pacts: their texts, their houses, their turning, and whether houses of given sizes have room for them."""

from pactroom.errors import NoPlace, NoText, NoWayBack
from pactroom.steps import NeedStep, read_step

MANNERS = ("held", "walked")
MOST_STEPS = 12


class Pact:
    def __init__(self, manner, steps):
        self.manner = manner
        self.steps = list(steps)
        # Who reads the list above may change it; what is told of the pact hangs on these alone.
        self.parts = tuple(steps)

    def spelled(self):
        return self.manner + " " + "; ".join([step.spelled() for step in self.parts])


def read_pact(text):
    # Without a blank the middle piece is empty, and a manner by itself is none.
    pieces = text.partition(" ")
    if pieces[0] not in MANNERS or pieces[1] == "":
        raise NoText(-1)
    texts = pieces[2].split("; ")
    if len(texts) > MOST_STEPS:
        raise NoText(-1)
    return Pact(pieces[0], [read_part(texts[k], k) for k in range(len(texts))])


def read_part(text, number):
    try:
        return read_step(text)
    except NoText:
        raise NoText(number) from None


def houses_of(pact):
    return tuple(sorted(set([step.house() for step in pact.parts if step.house() is not None])))


def turning(pact):
    for k in range(len(pact.parts)):
        if pact.parts[k].sure():
            return k
    return len(pact.parts)


def look(pact, sizes):
    for k in range(len(pact.parts)):
        if not is_there(pact.parts[k], sizes):
            raise NoPlace(k)
    if pact.manner == "walked":
        look_behind(pact)


def is_there(step, sizes):
    house = step.house()
    return house is None or (house < len(sizes) and step.lock()[2] < sizes[house])


def look_behind(pact):
    # Behind its turning a walked pact can't be undone any more, so nothing may stop it there.
    for k in range(turning(pact) + 1, len(pact.parts)):
        if isinstance(pact.parts[k], NeedStep):
            raise NoWayBack(k)
