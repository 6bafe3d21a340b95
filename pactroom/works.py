"""Works: a house's own side of the pacts that others, or the house itself, lead."""

from pactroom.chases import chased
from pactroom.kinds import lock_of
from pactroom.locks import Locks
from pactroom.steps import read_step


class Works:
    # All by pacts: drafts are dicts of cells and values, answers dicts of steps' numbers and the hands behind,
    # and of a waiting step its number, hand and text are kept.

    def __init__(self, stand, home, many):
        self.stand = stand
        self.home = home
        self.many = many
        self.locks = Locks()
        self.drafts = {}
        self.answers = {}
        self.pending = {}
        for row in stand.bound():
            self.take_up(row)

    def take_up(self, row):
        for told in row[3]:
            self.locks.ask(row[1], lock_of(told))
        self.drafts[row[1]] = dict(row[4])

    def work(self, sheet, p, i, hand, text):
        if self.is_bound(p):
            return
        if i in self.answers.get(p, {}):
            self.send_did(sheet, p, i)
        elif p not in self.pending:
            if self.locks.ask(p, lock_of(read_step(text).lock())):
                self.do_step(sheet, p, (i, hand, text))
            else:
                self.pending[p] = (i, hand, text)

    def do_step(self, sheet, p, waited):
        behind = read_step(waited[2]).step_done(waited[1], lambda cell: self.value_at(p, cell))
        self.drafts.setdefault(p, {}).update(dict(behind[1]))
        if p not in self.answers:
            self.answers[p] = {}
            sheet.row(("work", p))
        self.answers[p][waited[0]] = behind[0]
        self.send_did(sheet, p, waited[0])

    def value_at(self, p, cell):
        draft = self.drafts.get(p, {})
        return draft[cell] if cell in draft else self.stand.cell_at(cell)

    def send_did(self, sheet, p, i):
        sheet.send(p[0], "did", p, (i, self.answers[p][i]))

    def ready(self, sheet, p, houses):
        if not self.is_bound(p):
            if p not in self.answers or p in self.pending:
                return
            locks = tuple([pair[1] for pair in self.held() if pair[0] == p])
            sheet.row(("ready", p, tuple(houses), locks, tuple(sorted(self.drafts[p].items()))))
            self.answers.pop(p)
        sheet.send(p[0], "yes", p, ())

    def ended(self, sheet, p):
        self.drafts.pop(p, None)
        self.answers.pop(p, None)
        self.pending.pop(p, None)
        for freed in self.locks.free(p):
            self.do_step(sheet, freed, self.pending.pop(freed))

    def walk(self, sheet, p, i, hand, text):
        row = self.stand.walked_at(p, i)
        if row is not None:
            if row[0] == "walked":
                sheet.send(p[0], "went", p, (i, row[4]))
            return
        step = read_step(text)
        if self.stand.outcome(p) == "broken" or not self.lock_stands(p, step):
            return
        behind = step.step_done(hand, lambda cell: self.stand.cell_at(cell))
        sheet.row(("walked", p, i, behind[1], behind[0]))
        sheet.send(p[0], "went", p, (i, behind[0]))

    def undo(self, sheet, p, i, text):
        row = self.stand.walked_at(p, i)
        if row is None:
            sheet.row(("void", p, i))
        elif row[0] == "walked":
            step = read_step(text)
            changes = step.back(lambda cell: self.stand.cell_at(cell))
            if changes and not self.lock_stands(p, step):
                return
            sheet.row(("undone", p, i, changes))
        sheet.send(p[0], "undid", p, (i,))

    def lock_stands(self, p, step):
        return self.locks.stands(p, lock_of(step.lock()))

    def turn(self, sheet):
        for row in sorted(self.stand.bound(), key=lambda one: one[1]):
            for house in range(self.many):
                if house != self.home:
                    sheet.send(house, "ask", row[1], row[2])
        # A bound pact has no answers and does not wait.
        for p in sorted(set(list(self.answers) + list(self.pending))):
            if p[0] != self.home:
                sheet.send(p[0], "ask", p, ())
        for pair in self.waiting():
            self.chase(sheet, pair[0], ())

    def chase(self, sheet, p, path):
        told = chased(self.locks, self.home, p, path)
        if told[0] != "none":
            sheet.send(told[1][0], told[0], told[1], told[2])

    def held(self):
        return self.locks.held()

    def waiting(self):
        return self.locks.waiting()

    def is_bound(self, p):
        return p in [row[1] for row in self.stand.bound()]
