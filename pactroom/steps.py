"""The steps of pacts: how each is told and read, its lock, what comes of it and how it is undone."""

from pactroom.errors import NoNeed, NoText, NoThing
from pactroom.kinds import Change, Mean, Read
from pactroom.things import is_whole, read_thing, shown

MOST_FIGURES = 40

# What follows each word: H a house, C, A and B cells, V any whole number.
SHAPES = {"take": "HC", "mean": "HC", "sum": "HAB", "give": "HC", "add": "HCV", "plus": "V", "need": "V"}


class Step:
    # What holds of a step of which nothing else is said.

    def house(self):
        return None

    def lock(self):
        return None

    def step_done(self, hand, value_of):
        return (hand, ())

    def back(self, value_of):
        return ()

    def sure(self):
        return False

    def spelled(self):
        raise NotImplementedError("each step has its own word")


class CellStep(Step):
    # What the steps at one cell have in common.

    def __init__(self, where, cell):
        self.where = where
        self.cell = cell

    def house(self):
        return self.where


class TakeStep(CellStep):
    def lock(self):
        return Read(self.cell, self.cell).told()

    def step_done(self, hand, value_of):
        return (value_of(self.cell), ())

    def spelled(self):
        return spell("take", [self.where, self.cell])


class MeanStep(CellStep):
    def lock(self):
        return Mean(self.cell, self.cell).told()

    def step_done(self, hand, value_of):
        return (value_of(self.cell), ())

    def spelled(self):
        return spell("mean", [self.where, self.cell])


class SumStep(Step):
    def __init__(self, where, low, high):
        self.where = where
        self.low = low
        self.high = high

    def house(self):
        return self.where

    def lock(self):
        return Read(self.low, self.high).told()

    def step_done(self, hand, value_of):
        return (sum([value_of(cell) for cell in range(self.low, self.high + 1)]), ())

    def spelled(self):
        return spell("sum", [self.where, self.low, self.high])


class GiveStep(CellStep):
    def lock(self):
        return Change(self.cell, self.cell).told()

    def step_done(self, hand, value_of):
        return (hand, ((self.cell, hand),))

    def sure(self):
        return True

    def spelled(self):
        return spell("give", [self.where, self.cell])


class AddStep(CellStep):
    def __init__(self, where, cell, amount):
        CellStep.__init__(self, where, cell)
        self.amount = amount

    def lock(self):
        return Change(self.cell, self.cell).told()

    def step_done(self, hand, value_of):
        return (hand, ((self.cell, value_of(self.cell) + self.amount),))

    def back(self, value_of):
        return ((self.cell, value_of(self.cell) - self.amount),)

    def spelled(self):
        return spell("add", [self.where, self.cell, self.amount])


class PlusStep(Step):
    def __init__(self, amount):
        self.amount = amount

    def step_done(self, hand, value_of):
        return (hand + self.amount, ())

    def spelled(self):
        return spell("plus", [self.amount])


class NeedStep(Step):
    def __init__(self, amount):
        self.amount = amount

    def step_done(self, hand, value_of):
        if hand < self.amount:
            raise NoNeed("the hand is less than is needed")
        return (hand, ())

    def spelled(self):
        return spell("need", [self.amount])


def spell(word, numbers):
    return " ".join([word] + [shown(number) for number in numbers])


def read_step(text):
    words = text.split(" ")
    shape = SHAPES.get(words[0])
    if shape is None or len(words) != len(shape) + 1:
        raise NoText(0)
    return made_step(words[0], [read_number(words[k + 1], shape[k]) for k in range(len(shape))])


def read_number(word, letter):
    try:
        number = read_thing(word)
    except NoThing:
        raise NoText(0) from None
    if not is_whole(number) or len(word.lstrip("-")) > MOST_FIGURES:
        raise NoText(0)
    if number < 0 and letter != "V":
        raise NoText(0)
    return number


def made_step(word, numbers):
    if word == "take":
        return TakeStep(numbers[0], numbers[1])
    if word == "mean":
        return MeanStep(numbers[0], numbers[1])
    if word == "sum":
        return made_sum(numbers[0], numbers[1], numbers[2])
    if word == "give":
        return GiveStep(numbers[0], numbers[1])
    if word == "add":
        return AddStep(numbers[0], numbers[1], numbers[2])
    if word == "plus":
        return PlusStep(numbers[0])
    return NeedStep(numbers[0])


def made_sum(where, low, high):
    if low > high:
        raise NoText(0)
    return SumStep(where, low, high)
