"""The refusals: one class for each, all of them under PactError alone."""


class PactError(ValueError):
    pass


class NoThing(PactError):
    pass


class NoNeed(PactError):
    pass


class Waiting(PactError):
    pass


class NoHouse(PactError):
    pass


class Fallen(PactError):
    pass


class Standing(PactError):
    pass


class NoLetter(PactError):
    pass


class NotBound(PactError):
    pass


# The four that bear a place don't share a base for it: no refusal stands under another one.


class NoText(PactError):
    def __init__(self, at):
        self.at = at


class NoPlace(PactError):
    def __init__(self, at):
        self.at = at


class NoWayBack(PactError):
    def __init__(self, at):
        self.at = at


class NoFit(PactError):
    def __init__(self, at):
        self.at = at
