"""A second telling of a house, slow and plain: whatever the book tells is asked of its rows anew each time."""


class ModelSheet:
    def __init__(self, house):
        self.house = house
        self.rows = []
        self.letters = []
        self.news = None

    def row(self, *row):
        self.rows.append(row)
        self.house.book.append(row)

    def send(self, to, *letter):
        self.letters.append((to, letter))

    def done(self):
        self.news = tuple(sorted((row[1], row[2]) for row in self.house.book if row[0] == "end"))
        return self

    def rows_told(self):
        return list(self.rows)

    def letters_told(self):
        return [(to, letter + (self.news,)) for to, letter in self.letters]


def lock_of(text):
    words = text.split(" ")
    cells = [int(word) for word in words[2:4]]
    if words[0] == "sum":
        return ("read", cells[0], cells[1])
    return ({"take": "read", "mean": "mean"}.get(words[0], "change"), cells[0], cells[0])


def hinder(one, other):
    if one[2] < other[1] or other[2] < one[1]:
        return False
    return sorted((one[0], other[0])) not in (["read", "read"], ["mean", "read"])


def covers(one, other):
    order = ("read", "mean", "change")
    return one[1] <= other[1] and other[2] <= one[2] and order.index(one[0]) >= order.index(other[0])


def do_step(text, hand, value_of):
    """The hand behind and a dict of changes."""
    words = text.split(" ")
    numbers = [int(word) for word in words[1:]]
    if words[0] in ("take", "mean"):
        return value_of(numbers[1]), {}
    if words[0] == "sum":
        return sum(value_of(cell) for cell in range(numbers[1], numbers[2] + 1)), {}
    if words[0] == "give":
        return hand, {numbers[1]: hand}
    if words[0] == "add":
        return hand, {numbers[1]: value_of(numbers[1]) + numbers[2]}
    return hand + (numbers[0] if words[0] == "plus" else 0), {}


def house_of(text):
    return None if text.split(" ")[0] in ("plus", "need") else int(text.split(" ")[1])


class ModelLead:
    def __init__(self, text):
        self.manner = text.split(" ")[0]
        self.steps = text[len(self.manner) + 1:].split("; ")
        self.houses = tuple(sorted({house_of(step) for step in self.steps} - {None}))
        gives = [k for k, step in enumerate(self.steps) if step.startswith("give ")]
        self.turning = (gives + [len(self.steps)])[0]
        self.hands = []
        self.yes = set()
        self.count = 0
        self.outcome = None
        self.undone = self.turning

    def waits_for(self):
        """The number of the step at a house whose answer it waits for, or None."""
        return len(self.hands) if len(self.hands) < len(self.steps) else None

    def hand(self):
        return ([0] + self.hands)[-1]


class Model:
    def __init__(self, cells, home, many):
        self.first = list(cells)
        self.home = home
        self.many = many
        self.book = []
        self.stands = True
        self.empty()

    def empty(self):
        self.pairs = []
        self.drafts = {}
        self.answers = {}
        self.waits = {}
        self.leads = {}

    # The book.

    def rows_of(self, word, p):
        return [row for row in self.book if row[0] == word and row[1] == p]

    def outcome(self, p):
        ends = self.rows_of("end", p)
        return ends[0][2] if ends else None

    def bound(self):
        return [row for row in self.book if row[0] == "ready" and self.outcome(row[1]) is None]

    def is_bound(self, p):
        return p in [row[1] for row in self.bound()]

    def cells(self):
        cells = list(self.first)
        for at, row in enumerate(self.book):
            changes = row[3] if row[0] in ("walked", "undone") else ()
            if row[0] == "end" and row[2] == "done":
                changes = sum([one[4] for one in self.book[:at] if one[:2] == ("ready", row[1])], ())
            for cell, value in changes:
                cells[cell] = value
        return cells

    def step_row(self, p, i):
        rows = [row for row in self.book if row[0] in ("walked", "undone", "void") and row[1:3] == (p, i)]
        return rows[-1] if rows else None

    # The locks.

    def foremost(self, at):
        """The pact of the foremost pair that hinders the one at this place, or None."""
        p, lock = self.pairs[at]
        return next((q for q, other in self.pairs[:at] if q != p and hinder(lock, other)), None)

    def held(self):
        return [pair for at, pair in enumerate(self.pairs) if self.foremost(at) is None]

    def waiting(self):
        return [pair for at, pair in enumerate(self.pairs) if self.foremost(at) is not None]

    def behind(self, p):
        return next((self.foremost(at) for at, pair in enumerate(self.pairs)
                     if pair[0] == p and self.foremost(at) is not None), None)

    def lock_stands(self, p, lock):
        return not any(q != p and hinder(lock, other) for q, other in self.held())

    # The works.

    def work(self, sheet, p, i, hand, text):
        if self.is_bound(p):
            return
        if i in self.answers.get(p, {}):
            sheet.send(p[0], "did", p, (i, self.answers[p][i]))
            return
        if p in self.waits:
            return
        lock = lock_of(text)
        if not any(q == p and covers(other, lock) for q, other in self.pairs):
            self.pairs.append((p, lock))
        if self.behind(p) is None:
            self.step_done(sheet, p, i, hand, text)
        else:
            self.waits[p] = (i, hand, text)

    def step_done(self, sheet, p, i, hand, text):
        values = dict(enumerate(self.cells()))
        values.update(self.drafts.get(p, {}))
        hand, changes = do_step(text, hand, values.__getitem__)
        self.drafts[p] = {**self.drafts.get(p, {}), **changes}
        if not self.answers.get(p):
            sheet.row("work", p)
        self.answers[p] = {**self.answers.get(p, {}), i: hand}
        sheet.send(p[0], "did", p, (i, hand))

    def ready(self, sheet, p, houses):
        if not self.is_bound(p):
            if not self.answers.get(p) or p in self.waits:
                return
            locks = tuple(lock for q, lock in self.pairs if q == p)
            sheet.row("ready", p, houses, locks, tuple(sorted(self.drafts[p].items())))
            self.answers[p] = {}
        sheet.send(p[0], "yes", p, ())

    def ended(self, sheet, p):
        for kept in (self.drafts, self.answers, self.waits):
            kept.pop(p, None)
        before = [q for q, lock in self.waiting() if q != p]
        self.pairs = [pair for pair in self.pairs if pair[0] != p]
        after = [q for q, lock in self.waiting()]
        for q in before:
            if q not in after:
                self.step_done(sheet, q, *self.waits.pop(q))

    def walk(self, sheet, p, i, hand, text):
        row = self.step_row(p, i)
        if row is None and self.outcome(p) != "broken" and self.lock_stands(p, lock_of(text)):
            hand, changes = do_step(text, hand, self.cells().__getitem__)
            sheet.row("walked", p, i, tuple(changes.items()), hand)
            sheet.send(p[0], "went", p, (i, hand))
        elif row is not None and row[0] == "walked":
            sheet.send(p[0], "went", p, (i, row[4]))

    def undo(self, sheet, p, i, text):
        row = self.step_row(p, i)
        if row is None:
            sheet.row("void", p, i)
        elif row[0] == "walked":
            changes = ()
            if text.startswith("add "):
                if not self.lock_stands(p, lock_of(text)):
                    return
                cell, amount = [int(word) for word in text.split(" ")[2:]]
                changes = ((cell, self.cells()[cell] - amount),)
            sheet.row("undone", p, i, changes)
        sheet.send(p[0], "undid", p, (i,))

    def works_turn(self, sheet):
        for row in sorted(self.bound(), key=lambda row: row[1]):
            for house in range(self.many):
                if house != self.home:
                    sheet.send(house, "ask", row[1], row[2])
        for p in sorted({p for p in self.answers if self.answers[p]} | set(self.waits)):
            if p[0] != self.home:
                sheet.send(p[0], "ask", p, ())
        for p, lock in self.waiting():
            self.chase(sheet, p, ())

    def chase(self, sheet, p, path):
        ahead = self.behind(p)
        if ahead is None:
            return
        path += ((p, self.home),)
        pacts = [q for q, house in path]
        if ahead == pacts[0]:
            k, leader = max((q[1], q[0]) for q in pacts)
            sheet.send(leader, "ring", (leader, k), path)
        elif ahead not in pacts:
            if self.behind(ahead) is not None:
                self.chase(sheet, ahead, path)
            else:
                sheet.send(ahead[0], "seek", ahead, path)

    # The leads.

    def lead_goes(self, sheet, p):
        """Goes on, or sends again; where it names an outcome, the pact is ended so."""
        lead = self.leads[p]
        if lead.outcome == "broken" and lead.manner == "walked":
            self.lead_undoes(sheet, p)
        if lead.outcome == "broken" or (lead.outcome == "done" and lead.manner == "held"):
            return
        while lead.waits_for() is not None and house_of(lead.steps[lead.waits_for()]) is None:
            text = lead.steps[lead.waits_for()]
            if text.startswith("need ") and lead.hand() < int(text[5:]):
                self.end(sheet, p, "broken")
                return
            lead.hands.append(do_step(text, lead.hand(), None)[0])
        i = lead.waits_for()
        if lead.manner == "walked" and lead.outcome is None and len(lead.hands) == lead.turning:
            self.end(sheet, p, "done")
        elif i is not None:
            word = {"held": "work", "walked": "walk"}[lead.manner]
            sheet.send(house_of(lead.steps[i]), word, p, (i, lead.hand(), lead.steps[i]))
        elif lead.manner == "walked":
            self.over(sheet, p)
        else:
            for house in lead.houses:
                if house not in lead.yes:
                    sheet.send(house, "ready", p, lead.houses)
            self.done_if_all(sheet, p)

    def done_if_all(self, sheet, p):
        if set(self.leads[p].houses) <= self.leads[p].yes:
            self.end(sheet, p, "done")

    def over(self, sheet, p):
        if not self.rows_of("over", p):
            sheet.row("over", p)

    def lead_undoes(self, sheet, p):
        lead = self.leads[p]
        steps = [(k, text) for k, text in enumerate(lead.steps[:lead.undone]) if house_of(text) is not None]
        if steps:
            sheet.send(house_of(steps[-1][1]), "undo", p, steps[-1])
        else:
            self.over(sheet, p)

    def lead_hears(self, sheet, p, word, sender, more):
        lead = self.leads.get(p)
        if lead is None:
            return
        walking = lead.manner == "walked" and lead.outcome != "broken"
        asking = lead.manner == "held" and lead.outcome is None
        if (word == "went" and walking or word == "did" and asking) and more[0] == lead.waits_for():
            lead.hands.append(more[1])
            self.lead_goes(sheet, p)
        elif word == "yes" and asking and lead.waits_for() is None:
            lead.yes.add(sender)
            self.done_if_all(sheet, p)
        elif word == "undid" and lead.manner == "walked" and lead.outcome == "broken":
            left = [k for k, text in enumerate(lead.steps[:lead.undone]) if house_of(text) is not None]
            if left and left[-1] == more[0]:
                lead.undone = more[0]
                self.lead_goes(sheet, p)

    # The deeds.

    def end(self, sheet, p, outcome):
        if self.outcome(p) is not None:
            return
        lead = self.leads.get(p)
        hands = tuple(lead.hands) if lead is not None and outcome == "done" else ()
        sheet.row("end", p, outcome, hands)
        self.ended(sheet, p)
        if lead is not None:
            lead.outcome = outcome
            if lead.manner == "walked":
                self.lead_goes(sheet, p)
            else:
                for house in lead.houses:
                    if house != self.home:
                        sheet.send(house, "tell", p, ())

    def begin(self, text):
        sheet = ModelSheet(self)
        p = (self.home, len([row for row in self.book if row[0] == "begin"]))
        sheet.row("begin", p, text)
        self.leads[p] = ModelLead(text)
        self.lead_goes(sheet, p)
        return sheet.done()

    def turn(self):
        sheet = ModelSheet(self)
        self.works_turn(sheet)
        for p in sorted(self.leads):
            lead = self.leads[p]
            lead.count += 1
            if lead.outcome is None and lead.count == 4:
                self.end(sheet, p, "broken")
            else:
                self.lead_goes(sheet, p)
        return sheet.done()

    def come(self, sender, letter):
        word, p, more, news = letter
        sheet = ModelSheet(self)
        for q, outcome in news:
            self.end(sheet, q, outcome)
        outcome = self.outcome(p)
        if word in ("work", "ready", "ask") and outcome is not None:
            sheet.send(sender, "tell", p, ())
        elif word in ("work", "walk", "undo"):
            getattr(self, word)(sheet, p, *more)
        elif word == "ready":
            self.ready(sheet, p, more)
        elif word == "ask" and self.home in more and p[0] != self.home and not self.is_bound(p):
            self.end(sheet, p, "broken")
            sheet.send(sender, "tell", p, ())
        elif word in ("did", "yes", "went", "undid"):
            self.lead_hears(sheet, p, word, sender, more)
        elif word == "find":
            self.chase(sheet, p, more)
        elif word in ("seek", "ring") and outcome is None and p in self.leads and self.leads[p].manner == "held":
            lead = self.leads[p]
            if word == "ring":
                self.end(sheet, p, "broken")
            elif lead.waits_for() is not None:
                sheet.send(house_of(lead.steps[lead.waits_for()]), "find", p, more)
        return sheet.done()

    def fall(self):
        self.stands = False
        self.empty()
        return ModelSheet(self).done()

    def rise(self):
        self.stands = True
        sheet = ModelSheet(self)
        for row in self.bound():
            self.pairs += [(row[1], lock) for lock in row[3]]
            self.drafts[row[1]] = dict(row[4])
        for p in sorted({row[1] for row in self.book if self.is_lost(row[1])}):
            self.end(sheet, p, "broken")
        for row in self.book:
            if row[0] == "begin" and row[2].startswith("walked ") and not self.rows_of("over", row[1]):
                lead = self.leads[row[1]] = ModelLead(row[2])
                lead.outcome = self.outcome(row[1])
                lead.hands = list(self.rows_of("end", row[1])[0][3])
        return sheet.done()

    def is_lost(self, p):
        if self.outcome(p) is not None:
            return False
        return bool(self.rows_of("begin", p) or self.rows_of("work", p) and not self.rows_of("ready", p))

    def is_fallen(self):
        return not self.stands
