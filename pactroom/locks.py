"""The locks of a house: who holds one, who waits for one, and behind whom."""

from pactroom.errors import Waiting


class Locks:
    # Pairs (pact, lock) in the order asked for. Which of them are held is reckoned anew each time: what is
    # not kept need not be mended when pairs leave.

    def __init__(self):
        self.pairs = []

    def ask(self, p, lock):
        if self.waiting_place(p) is not None:
            raise Waiting("a pair of this pact waits")
        # None of the pact's pairs waits, so it holds them all.
        if any([pair[0] == p and pair[1].covers(lock) for pair in self.pairs]):
            return True
        self.pairs.append((p, lock))
        return self.hinderer(len(self.pairs) - 1) is None

    def free(self, p):
        waited = self.waiting_pairs()
        self.pairs = [pair for pair in self.pairs if pair[0] != p]
        still = [pair[0] for pair in self.waiting_pairs()]
        return [pair[0] for pair in waited if pair[0] != p and pair[0] not in still]

    def stands(self, p, lock):
        return all([pair[0] == p or pair[1].beside(lock) for pair in self.held_pairs()])

    def behind(self, p):
        place = self.waiting_place(p)
        if place is None:
            return None
        return self.pairs[self.hinderer(place)][0]

    def held(self):
        return [(pair[0], pair[1].told()) for pair in self.held_pairs()]

    def waiting(self):
        return [(pair[0], pair[1].told()) for pair in self.waiting_pairs()]

    def hinderer(self, place):
        # The place of the foremost pair that the one at this place waits for, or None where it is held.
        pair = self.pairs[place]
        for k in range(place):
            ahead = self.pairs[k]
            if ahead[0] != pair[0] and not ahead[1].beside(pair[1]):
                return k
        return None

    def held_pairs(self):
        return [self.pairs[k] for k in range(len(self.pairs)) if self.hinderer(k) is None]

    def waiting_pairs(self):
        return [self.pairs[k] for k in range(len(self.pairs)) if self.hinderer(k) is not None]

    def waiting_place(self, p):
        for k in range(len(self.pairs)):
            if self.pairs[k][0] == p and self.hinderer(k) is not None:
                return k
        return None
