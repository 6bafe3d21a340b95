"""Houses and the letters between them: what tests of whole histories have in common."""

import random

from pactroom.house import House


class Roads:
    """Houses that send one another letters. Each deed tells its rows and its letters sent, as (to, letter)."""

    def __init__(self, cells, make=House):
        self.first = [list(values) for values in cells]
        self.houses = [make(values, home, len(cells)) for home, values in enumerate(cells)]
        self.sent = []
        self.story = []

    def kept(self, home, sheet, most=None):
        letters = sheet.letters_told()[:most]
        self.sent += [(home, to, letter) for to, letter in letters]
        self.story += [(home, row) for row in sheet.rows_told()]
        return sheet.rows_told(), letters

    def do(self, deed):
        """A deed as (word, house, ..): of a come the third is the letter's number in the order sent."""
        if deed[0] == "falling":
            return self.falling(deed[1], deed[2])
        return self.kept(deed[1], self.plain(deed))

    def plain(self, deed):
        house = self.houses[deed[1]]
        if deed[0] == "begin":
            return house.begin(deed[2])
        if deed[0] == "come":
            sender, to, letter = self.sent[deed[2]]
            assert to == deed[1]
            return house.come(sender, letter)
        return {"turn": house.turn, "fall": house.fall, "rise": house.rise}[deed[0]]()

    def falling(self, j, deed):
        home = deed[1]
        told = ([], []) if j == 0 else self.kept(home, self.plain(deed), j - 1)
        self.houses[home].fall()
        return told

    def all_come(self, start):
        at = start
        while at < len(self.sent):
            self.do(("come", self.sent[at][1], at))
            at += 1


def draw_text(chance, cells):
    """The text of a pact that may be looked at beside these cells."""
    manner = chance.choice(("held", "held", "walked"))
    parts = []
    for k in range(chance.choice((1, 2, 2, 3, 3, 4, 5, 12))):
        house = chance.randrange(len(cells))
        low = chance.randrange(len(cells[house]))
        high = chance.randrange(low, len(cells[house]))
        words = ["take %d %d", "mean %d %d", "give %d %d", "add %d %d " + str(chance.randrange(-9, 10))]
        word = chance.choice(words + ["sum", "plus", "need"])
        if word == "sum":
            parts.append("sum %d %d %d" % (house, low, high))
        elif word == "plus":
            parts.append("plus %d" % chance.randrange(-5, 6))
        elif word == "need":
            given = manner == "walked" and any(part.startswith("give") for part in parts)
            parts.append("plus 1" if given else "need %d" % chance.randrange(-30, 3))
        else:
            parts.append(word % (house, low))
    return manner + " " + "; ".join(parts)


def draw_cells(chance):
    return [[chance.randrange(-20, 100) for k in range(chance.choice((1, 1, 2, 3)))]
            for home in range(chance.choice((1, 2, 2, 3, 3, 4, 5)))]


class Draw:
    """Draws deeds that may be done next; how often houses fall and letters are lost hangs on the seed."""

    def __init__(self, seed, roads):
        self.chance = random.Random(seed)
        self.roads = roads
        self.falls = self.chance.choice((0, 0, 2, 6))
        self.losses = self.chance.choice((0, 2, 10))
        self.most = self.chance.choice((1, 3, 8, 20))
        self.fresh = []
        self.seen = 0
        self.begun = 0

    def deed(self):
        self.fresh += range(self.seen, len(self.roads.sent))
        self.seen = len(self.roads.sent)
        chance = self.chance
        deed = self.simple()
        if deed[0] != "fall" and chance.randrange(100) < self.falls:
            return ("falling", chance.randrange(5), deed)
        return deed

    def simple(self):
        chance = self.chance
        home = chance.randrange(len(self.roads.houses))
        if self.roads.houses[home].is_fallen():
            return ("rise", home)
        if chance.randrange(100) < self.falls:
            return ("fall", home)
        if self.begun < self.most and chance.randrange(4) == 0:
            self.begun += 1
            return ("begin", home, draw_text(chance, self.roads.first))
        mail = [at for at in self.fresh if not self.roads.houses[self.roads.sent[at][1]].is_fallen()]
        if mail and chance.randrange(8):
            at = mail[0] if chance.randrange(2) else chance.choice(mail)
            self.fresh.remove(at)
            if chance.randrange(100) < self.losses:
                return ("turn", home)
            return ("come", self.roads.sent[at][1], at)
        old = [at for at in range(self.seen) if self.roads.sent[at][1] == home]
        if old and chance.randrange(3) == 0:
            return ("come", home, chance.choice(old))
        return ("turn", home)
