"""A house: its book, what stands by it, its works and its leads, and what each deed at it writes and sends."""

from pactroom.leads import HeldLead, WalkedLead, lead_of
from pactroom.pacts import read_pact
from pactroom.sheets import Sheet
from pactroom.stands import Stand
from pactroom.works import Works

# Words about held pacts that are answered with tell as soon as the outcome is known.
HELD_WORDS = ("work", "ready", "ask")

# Whom the other words are for: the works; the lead; the lead of a held pact that has no outcome.
TASKS = ("work", "ready", "walk", "undo")
ANSWERS = ("did", "yes", "went", "undid")
CHASES = ("seek", "ring")


class House:
    # A fall leaves the book alone; what stands is told by it and the first cells, so it need not be made anew.
    # A house without works is fallen. Each deed is told as its sheet.

    def __init__(self, cells, home, many):
        self.home = home
        self.many = many
        self.rows = []
        self.stand = Stand(cells)
        self.works = Works(self.stand, home, many)
        self.leads = {}

    def begin(self, text):
        # Read first: a text that is refused leaves no row.
        pact = read_pact(text)
        sheet = Sheet(self.stand)
        p = (self.home, len(self.stand.begun()))
        sheet.row(("begin", p, text))
        self.leads[p] = lead_of(p, pact)
        self.heed(sheet, p, self.leads[p].go(sheet))
        return self.booked(sheet)

    def come(self, sender, letter):
        sheet = Sheet(self.stand)
        for pair in letter[3]:
            self.end_pact(sheet, pair[0], pair[1])
        self.take_word(sheet, sender, letter)
        return self.booked(sheet)

    def turn(self):
        sheet = Sheet(self.stand)
        self.works.turn(sheet)
        for p in sorted(self.leads):
            self.heed(sheet, p, self.leads[p].turn(sheet))
        return self.booked(sheet)

    def fall(self):
        self.works = None
        self.leads = {}
        return Sheet(self.stand)

    def rise(self):
        sheet = Sheet(self.stand)
        self.works = Works(self.stand, self.home, self.many)
        # No lead is there yet, so nothing is sent.
        for p in self.stand.lost():
            self.end_pact(sheet, p, "broken")
        self.booked(sheet)
        self.leads_again()
        return sheet

    def is_fallen(self):
        return self.works is None

    def booked(self, sheet):
        self.rows.extend(sheet.rows_told())
        return sheet

    def end_pact(self, sheet, p, outcome):
        if self.stand.outcome(p) is not None:
            return
        sheet.row(("end", p, outcome, self.hands_told(p, outcome)))
        self.works.ended(sheet, p)
        if p in self.leads:
            self.leads[p].end(sheet, outcome)

    def hands_told(self, p, outcome):
        return tuple(self.leads[p].hands) if outcome == "done" and p in self.leads else ()

    def heed(self, sheet, p, outcome):
        if outcome is not None:
            self.end_pact(sheet, p, outcome)

    def take_word(self, sheet, sender, letter):
        word = letter[0]
        p = letter[1]
        more = letter[2]
        if word in HELD_WORDS and self.stand.outcome(p) is not None:
            sheet.send(sender, "tell", p, ())
        elif word in TASKS:
            self.take_task(sheet, word, p, more)
        elif word == "ask":
            self.take_ask(sheet, sender, p, more)
        elif word in ANSWERS:
            self.take_answer(sheet, sender, word, p, more)
        elif word == "find":
            self.works.chase(sheet, p, more)
        elif word in CHASES:
            self.take_chase(sheet, word, p, more)

    def take_task(self, sheet, word, p, more):
        if word == "work":
            self.works.work(sheet, p, more[0], more[1], more[2])
        elif word == "ready":
            self.works.ready(sheet, p, more)
        elif word == "walk":
            self.works.walk(sheet, p, more[0], more[1], more[2])
        else:
            self.works.undo(sheet, p, more[0], more[1])

    def take_ask(self, sheet, sender, p, houses):
        # A house that is not bound can still break the pact off, and its word frees those that are.
        if self.home in houses and self.home != p[0] and not self.works.is_bound(p):
            self.end_pact(sheet, p, "broken")
            sheet.send(sender, "tell", p, ())

    def take_answer(self, sheet, sender, word, p, more):
        if p in self.leads:
            self.heed(sheet, p, self.leads[p].came(sheet, word, sender, more))

    def take_chase(self, sheet, word, p, path):
        lead = self.leads.get(p)
        if not isinstance(lead, HeldLead) or self.stand.outcome(p) is not None:
            return
        if word == "ring":
            self.heed(sheet, p, lead.naming("broken"))
        elif lead.next_house() is not None:
            sheet.send(lead.next_house(), "find", p, path)

    def leads_again(self):
        # By now each pact begun here has an end row; a row tells no hands where the pact is broken.
        hands = dict([(row[1], row[3]) for row in self.rows if row[0] == "end"])
        for pair in self.stand.begun():
            p = pair[0]
            lead = lead_of(p, read_pact(pair[1]))
            if isinstance(lead, WalkedLead) and not self.stand.is_over(p):
                lead.come_up(self.stand.outcome(p), hands[p])
                self.leads[p] = lead
