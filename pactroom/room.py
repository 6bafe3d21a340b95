"""A room: houses, the deeds that are done at them, and the letters that lie on the road between them."""

from pactroom.errors import Fallen, NoHouse, NoLetter, Standing
from pactroom.house import House
from pactroom.pacts import look, read_pact


class Room:
    # Letters are kept twice: in the order sent, and by their names as (to, letter).

    def __init__(self, cells):
        self.sizes = [len(values) for values in cells]
        self.houses = [House(cells[h], h, len(cells)) for h in range(len(cells))]
        self.counts = [0 for values in cells]
        self.sent = []
        self.roads = {}
        self.chronicle = []

    def do(self, deed):
        if deed[0] == "falling":
            return self.do_falling(deed[1], deed[2])
        self.refuse(deed)
        sheet = self.sheet_of(deed)
        return self.noted(deed[1], sheet.rows_told(), sheet.letters_told())

    def do_falling(self, j, deed):
        self.refuse(deed)
        house = self.houses[deed[1]]
        if j == 0:
            house.fall()
            return self.noted(deed[1], [], [])
        sheet = self.sheet_of(deed)
        house.fall()
        return self.noted(deed[1], sheet.rows_told(), sheet.letters_told()[:j - 1])

    def refuse(self, deed):
        # All is looked at ahead of the deed, so that what is refused changes nothing.
        house = self.house_at(deed[1])
        if deed[0] == "rise":
            if not house.is_fallen():
                raise Standing("the house stands")
        elif house.is_fallen():
            raise Fallen("the house is fallen")
        elif deed[0] == "come":
            self.refuse_letter(deed[1], deed[2])
        elif deed[0] == "begin":
            look(read_pact(deed[2]), self.sizes)

    def refuse_letter(self, h, name):
        if name not in self.roads or self.roads[name][0] != h:
            raise NoLetter("no such letter was sent to this house")

    def sheet_of(self, deed):
        house = self.houses[deed[1]]
        if deed[0] == "begin":
            return house.begin(deed[2])
        if deed[0] == "come":
            return house.come(deed[2][0], self.roads[deed[2]][1])
        if deed[0] == "turn":
            return house.turn()
        if deed[0] == "rise":
            return house.rise()
        return house.fall()

    def noted(self, h, rows, letters):
        n = self.counts[h]
        self.counts[h] += 1
        self.chronicle.extend([(h, row) for row in rows])
        posted = [((h, n, m), letters[m][0], letters[m][1]) for m in range(len(letters))]
        self.sent.extend(posted)
        self.roads.update(dict([(one[0], (one[1], one[2])) for one in posted]))
        return [("row", row) for row in rows] + [("send", one[0], one[1], one[2]) for one in posted]

    def house_at(self, h):
        if h < 0 or h >= len(self.houses):
            raise NoHouse("no such house is there")
        return self.houses[h]

    def letters(self):
        return list(self.sent)

    def book(self, h):
        return list(self.house_at(h).rows)

    def cells_of(self, h):
        return self.house_at(h).stand.cells_told()

    def knows(self, h, p):
        return self.house_at(h).stand.outcome(p)

    def standing(self, h):
        return not self.house_at(h).is_fallen()

    def state(self, h):
        house = self.house_at(h)
        book = (tuple(house.rows), tuple(self.cells_of(h)))
        if house.is_fallen():
            return (False,) + book + ((), ())
        return (True,) + book + (tuple(house.works.held()), tuple(house.works.waiting()))

    def story(self):
        return list(self.chronicle)


def room_behind(cells, deeds):
    room = Room(cells)
    for deed in deeds:
        room.do(deed)
    return room


def plain_deed(deed):
    return deed[2] if deed[0] == "falling" else deed
