"""The desk: a world that is worked by rows of words."""

from gapfill.books import parted
from gapfill.bounds import PAUSE, PLAIN, SIDES, WIDE
from gapfill.carrying import beats_due, carried, due
from gapfill.errors import NoRow
from gapfill.lettertexts import show_letter
from gapfill.parts import read_number
from gapfill.worlds import OTHER, World

# What stands behind the first word of each row.
ROWS = {
    "tell": ("side", "text"),
    "open": ("side",),
    "reset": ("side",),
    "close": ("side",),
    "beat": ("side",),
    "bring": ("side", "number"),
    "lose": ("side", "number"),
    "double": ("side", "number"),
    "fall": (),
    "crash": ("side",),
    "cut": ("side", "number"),
    "carry": ("number",),
    "state": ("side",),
    "due": (),
    "beats": (),
    "heard": ("side",),
    "way": ("side",),
    "missing": ("side",),
    "unsaid": ("side",),
    "parts": (),
}

DONE = "ok"
NONE = "none"


def _read_part(text, kind):
    if kind != "number":
        return text
    number = read_number(text)
    if number is None:
        raise NoRow("this is no number")
    return number


def _read_row(row):
    """The row's word, and what stands behind it: numbers as such, the words of a text as one."""
    if type(row) != str:
        raise NoRow("this is no row")
    word, *texts = row.split(" ")
    if word not in ROWS or "" in texts:
        raise NoRow("there is no row of this word, or one of its words is empty")
    kinds = ROWS[word]
    if "text" in kinds and len(texts) > 2:
        texts = [texts[0], " ".join(texts[1:])]
    if len(texts) != len(kinds):
        raise NoRow("a row of this word has another number of words")
    return (word,) + tuple([_read_part(text, kind) for text, kind in zip(texts, kinds)])


def _show_rows(rows):
    """Rows of a round and of what else is told there."""
    return ", ".join([":".join([str(part) for part in row]) for row in rows]) or NONE


def _heard(world, name):
    rows = [(turn, number, f"{text}?" if doubt else text) for turn, number, text, doubt in world.heard(name)]
    return _show_rows(rows)


def _way(world, name):
    return "; ".join([show_letter(letter) for letter in world.under_way(name)]) or NONE


def _parts(world):
    for name in SIDES:
        place = parted(world.words(name), world.heard(OTHER[name]))
        if place is not None:
            return f"{name} {place[0]} {place[1]}"
    return NONE


def _answer(world, row):
    """What a row tells that asks something; None of all others."""
    word = row[0]
    if word == "due":
        return str(due(world))
    if word == "beats":
        return str(beats_due(world))
    if word == "parts":
        return _parts(world)
    if word == "state":
        return world.state(row[1])
    if word == "heard":
        return _heard(world, row[1])
    if word == "way":
        return _way(world, row[1])
    if word == "missing":
        return _show_rows(world.side(row[1]).missing())
    if word == "unsaid":
        return _show_rows(world.side(row[1]).unsaid())
    return None


def _deed(row):
    """The deed of a row, which is written as it, but for the openings."""
    if row[0] == "open":
        return ("open", row[1], False)
    if row[0] == "reset":
        return ("open", row[1], True)
    return row


class Desk:
    """A world, and rows that work it."""

    def __init__(self, *, makes=(PLAIN, PLAIN), pause=PAUSE, wide=WIDE):
        self._world = World(makes=makes, pause=pause, wide=wide)

    def say(self, row):
        """Do what the row says, and tell what comes of it."""
        parts = _read_row(row)
        answer = _answer(self._world, parts)
        if answer is not None:
            return answer
        if parts[0] == "carry":
            self._world = carried(self._world, beats=parts[1])
        else:
            self._world.do(_deed(parts))
        return DONE
