"""Books: rows written as lines, each with the mark of its text, and told again."""

from pactroom.errors import NoThing
from pactroom.things import read_thing, shown

# A prime above every place and every sign's number: one sign changed always changes the mark.
MODULUS = 1000003


def mark(text):
    return sum([(k + 1) * ord(text[k]) for k in range(len(text))]) % MODULUS


def line(row):
    text = shown(row)
    return text + " " + shown(mark(text)) + "\n"


def written(rows):
    return "".join([line(row) for row in rows])


def rows_of(text):
    rows = []
    # What lies behind the last line end is no whole line.
    for words in text.split("\n")[:-1]:
        row = row_of(words)
        if row is None:
            break
        rows.append(row)
    return rows


def row_of(words):
    # The mark has no blank in it, so the last blank is the one ahead of the mark.
    parts = words.rpartition(" ")
    if parts[2] != shown(mark(parts[0])):
        return None
    try:
        thing = read_thing(parts[0])
    except NoThing:
        return None
    return thing if isinstance(thing, tuple) else None
