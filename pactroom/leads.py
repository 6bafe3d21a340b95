"""Leads: how the house where a pact was begun brings it to its outcome, and what it does behind that."""

from pactroom.errors import NoNeed
from pactroom.pacts import houses_of, turning

PATIENCE = 4


class Lead:
    # What leads of both manners have in common. The hands are those behind the steps so far, those at no house
    # too, so how many they are is the number of the next step.

    def __init__(self, name, pact):
        self.name = name
        self.steps = pact.parts
        self.houses = houses_of(pact)
        self.hands = []
        self.turns = 0
        # An outcome is named first; closed tells that the house has ended the pact.
        self.named = None
        self.closed = False

    def go(self, sheet):
        if self.closed:
            self.go_behind(sheet)
            return None
        if self.named is not None:
            return None
        if not self.own_steps_done():
            return self.naming("broken")
        return self.go_ahead(sheet)

    def turn(self, sheet):
        if self.named is None:
            self.turns += 1
            if self.turns == PATIENCE:
                return self.naming("broken")
        return self.go(sheet)

    def end(self, sheet, outcome):
        if self.closed:
            return
        self.named = outcome
        self.closed = True
        self.go_from_end(sheet)

    def came(self, sheet, word, sender, more):
        raise NotImplementedError("each manner has its own answers")

    def go_ahead(self, sheet):
        raise NotImplementedError("each manner has its own way to an outcome")

    def go_from_end(self, sheet):
        raise NotImplementedError("each manner has its own way from the end on")

    def go_behind(self, sheet):
        raise NotImplementedError("each manner has its own letters behind the end")

    def naming(self, outcome):
        self.named = outcome
        return outcome

    def own_steps_done(self):
        # False where a need isn't met: that step is not done, and it stays the next one.
        while len(self.hands) < len(self.steps) and self.next_house() is None:
            step = self.steps[len(self.hands)]
            try:
                self.hands.append(step.step_done(self.present_hand(), no_value)[0])
            except NoNeed:
                return False
        return True

    def next_house(self):
        # None where the next step is at no house, and where no step is left.
        if len(self.hands) == len(self.steps):
            return None
        return self.steps[len(self.hands)].house()

    def present_hand(self):
        return self.hands[-1] if self.hands else 0

    def send_step(self, sheet, word):
        number = len(self.hands)
        text = self.steps[number].spelled()
        sheet.send(self.next_house(), word, self.name, (number, self.present_hand(), text))

    def is_answer(self, more):
        return self.next_house() is not None and more[0] == len(self.hands)


class HeldLead(Lead):
    def __init__(self, name, pact):
        Lead.__init__(self, name, pact)
        self.agreed = {}

    def go_ahead(self, sheet):
        if self.next_house() is not None:
            self.send_step(sheet, "work")
            return None
        for house in self.silent():
            sheet.send(house, "ready", self.name, self.houses)
        return self.done_if_all_agree()

    def came(self, sheet, word, sender, more):
        if self.named is not None:
            return None
        if word == "did" and self.is_answer(more):
            self.hands.append(more[1])
            return self.go(sheet)
        # Ready goes out behind the last step: a yes that came ahead of it answers nothing.
        if word == "yes" and len(self.hands) == len(self.steps):
            self.agreed[sender] = True
            return self.done_if_all_agree()
        return None

    def silent(self):
        return [house for house in self.houses if house not in self.agreed]

    def done_if_all_agree(self):
        return None if self.silent() else self.naming("done")

    def go_from_end(self, sheet):
        for house in self.houses:
            if house != self.name[0]:
                sheet.send(house, "tell", self.name, ())

    def go_behind(self, sheet):
        # Nothing more is done: whom no tell reached, asks.
        pass


class WalkedLead(Lead):
    def __init__(self, name, pact):
        Lead.__init__(self, name, pact)
        self.bend = turning(pact)
        # The steps that are undone where the pact is broken off: the last one first, and each leaves when it is.
        self.undoing = [k for k in range(self.bend) if self.steps[k].house() is not None]
        self.signed = False

    def go_ahead(self, sheet):
        if len(self.hands) == self.bend:
            return self.naming("done")
        self.send_step(sheet, "walk")
        return None

    def came(self, sheet, word, sender, more):
        if word == "went" and self.is_walking() and self.is_answer(more):
            self.hands.append(more[1])
            return self.go(sheet)
        if word == "undid" and self.is_undoing() and more[0] == self.undoing[-1]:
            self.undoing.pop()
            return self.go(sheet)
        return None

    def is_walking(self):
        return self.named is None or (self.closed and self.named == "done")

    def is_undoing(self):
        return self.closed and self.named == "broken" and len(self.undoing) > 0

    def go_from_end(self, sheet):
        self.go_behind(sheet)

    def go_behind(self, sheet):
        is_left = self.walk_rest(sheet) if self.named == "done" else self.undo_rest(sheet)
        if not is_left and not self.signed:
            self.signed = True
            sheet.row(("over", self.name))

    def come_up(self, outcome, hands):
        # As it was when it was ended, with nothing sent: its letters, or its over row, go at turns.
        self.hands = list(hands)
        self.named = outcome
        self.closed = True

    # Each of these two tells whether something was left, whose letter then went.

    def walk_rest(self, sheet):
        self.own_steps_done()
        if self.next_house() is None:
            return False
        self.send_step(sheet, "walk")
        return True

    def undo_rest(self, sheet):
        if not self.undoing:
            return False
        number = self.undoing[-1]
        step = self.steps[number]
        sheet.send(step.house(), "undo", self.name, (number, step.spelled()))
        return True


def lead_of(name, pact):
    return HeldLead(name, pact) if pact.manner == "held" else WalkedLead(name, pact)


def no_value(cell):
    # Steps at no house have no lock and ask for no cell.
    raise NotImplementedError("a step at no house asks for no cell")
