"""Things (whole numbers, texts and tuples of things) and the texts that tell them."""

from pactroom.errors import NoThing

MOST_FIGURES = 400
MOST_SIGNS = 2000
MOST_PARTS = 2000
MOST_DEEP = 8
LONGEST = 100000

# Signs are told by their numbers in ASCII.
BLANK = 32
PERCENT = 37
TILDE = 126


def is_whole(thing):
    return isinstance(thing, int) and not isinstance(thing, bool)


def shown(thing):
    if is_whole(thing):
        return str(thing)
    if isinstance(thing, str):
        return str(len(thing)) + ":" + thing
    return "(" + " ".join([shown(part) for part in thing]) + ")"


def read_thing(text):
    if len(text) > LONGEST:
        raise NoThing("the text is too long for a thing's")
    # Looked at once for the whole text: from here on its figures are those of ASCII alone.
    if not all([is_sign(sign) for sign in text]):
        raise NoThing("a sign that no thing's text has")
    reader = Reader(text)
    thing = reader.read_any(MOST_DEEP)
    if reader.place != len(text):
        raise NoThing("something is left behind the thing")
    return thing


def is_sign(sign):
    number = ord(sign)
    return BLANK <= number <= TILDE and number != PERCENT


class Reader:
    # Goes along a text; place is the number of the sign that is next.

    def __init__(self, text):
        self.text = text
        self.place = 0

    def passes(self, sign):
        if not self.text.startswith(sign, self.place):
            return False
        self.place += 1
        return True

    def read_any(self, deep):
        if self.passes("("):
            return self.read_parts(deep)
        if self.passes("-"):
            return self.read_below()
        number = self.read_number()
        if self.passes(":"):
            return self.read_signs(number)
        return number

    def read_parts(self, deep):
        # Asked ahead of the parts, so that no text leads deeper than a thing may be.
        if deep == 0:
            raise NoThing("a tuple lies too deep")
        if self.passes(")"):
            return ()
        parts = [self.read_any(deep - 1)]
        while self.passes(" "):
            parts.append(self.read_any(deep - 1))
        if not self.passes(")"):
            raise NoThing("a tuple does not go on as one")
        if len(parts) > MOST_PARTS:
            raise NoThing("a tuple has too many things")
        return tuple(parts)

    def read_below(self):
        number = self.read_number()
        if number == 0:
            raise NoThing("0 has no sign ahead")
        return -number

    def read_number(self):
        start = self.place
        while self.place < len(self.text) and self.text[self.place].isdigit():
            self.place += 1
        figures = self.text[start:self.place]
        if figures == "":
            raise NoThing("a thing is missing")
        if len(figures) > MOST_FIGURES:
            raise NoThing("a number has too many figures")
        if figures.startswith("0") and figures != "0":
            raise NoThing("a number has noughts ahead")
        return int(figures)

    def read_signs(self, many):
        behind = self.place + many
        if many > MOST_SIGNS:
            raise NoThing("a text has too many signs")
        if behind > len(self.text):
            raise NoThing("a text has fewer signs than it says")
        signs = self.text[self.place:behind]
        self.place = behind
        return signs
