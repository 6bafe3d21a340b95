"""Locks on stretches of cells, of three kinds: read, mean and change."""

# The greater kind has the greater number.
RANKS = {"read": 0, "mean": 1, "change": 2}

# The kinds of two locks that may share cells, asked either way.
SHARING = (("read", "read"), ("read", "mean"), ("mean", "read"))


class Lock:
    def __init__(self, first, last):
        self.first = first
        self.last = last

    def kind(self):
        raise NotImplementedError("a lock is of one of the three kinds")

    def beside(self, other):
        apart = self.last < other.first or other.last < self.first
        return apart or (self.kind(), other.kind()) in SHARING

    def covers(self, other):
        within = self.first <= other.first and other.last <= self.last
        return within and RANKS[self.kind()] >= RANKS[other.kind()]

    def told(self):
        return (self.kind(), self.first, self.last)


class Read(Lock):
    def kind(self):
        return "read"


class Mean(Lock):
    def kind(self):
        return "mean"


class Change(Lock):
    def kind(self):
        return "change"


def lock_of(told):
    if told[0] == "read":
        return Read(told[1], told[2])
    if told[0] == "mean":
        return Mean(told[1], told[2])
    return Change(told[1], told[2])
