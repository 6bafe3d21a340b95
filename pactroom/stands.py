"""What stands at a house: what its first cells and the rows of its book in turn tell."""


class Stand:
    def __init__(self, cells):
        self.cells = list(cells)
        # What the rows tell is kept in the way it is asked for, so that no question walks the whole book: all by
        # pacts, but the begin rows as pairs in their order, and the rows of a walked pact by pact and step.
        self.begins = []
        self.worked = {}
        self.readies = {}
        self.ends = {}
        self.walks = {}
        self.overs = {}

    def keep(self, row):
        for change in self.changes_of(row):
            self.cells[change[0]] = change[1]
        p = row[1]
        if row[0] == "begin":
            self.begins.append((p, row[2]))
        elif row[0] == "work":
            self.worked[p] = True
        elif row[0] == "ready":
            self.readies[p] = row
        elif row[0] == "end":
            # One outcome: a first one is never told otherwise.
            self.ends.setdefault(p, row[2])
        elif row[0] == "over":
            self.overs[p] = True
        else:
            self.walks[(p, row[2])] = row

    def changes_of(self, row):
        if row[0] == "end" and row[2] == "done" and row[1] in self.readies:
            return self.readies[row[1]][4]
        if row[0] == "walked" or row[0] == "undone":
            return row[3]
        return ()

    def cell_at(self, cell):
        return self.cells[cell]

    def cells_told(self):
        return list(self.cells)

    def outcome(self, p):
        return self.ends.get(p)

    def news(self):
        return tuple(sorted(self.ends.items()))

    def bound(self):
        return [self.readies[p] for p in self.readies if p not in self.ends]

    def lost(self):
        led = [pair[0] for pair in self.begins if pair[0] not in self.ends]
        helped = [p for p in self.worked if p not in self.readies and p not in self.ends]
        return sorted(set(led + helped))

    def begun(self):
        return list(self.begins)

    def walked_at(self, p, i):
        return self.walks.get((p, i))

    def is_over(self, p):
        return p in self.overs
