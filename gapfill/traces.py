"""Traces: what was done to a side, done again to a new one."""

from gapfill.bounds import PAUSE, PLAIN, WIDE
from gapfill.errors import NoTrace
from gapfill.letters import has_word, is_letter, is_text, is_truth
from gapfill.sides import OFF, Side
from gapfill.stores import Store


def _is_alone(parts):
    return len(parts) == 0


def _is_open(parts):
    return len(parts) == 1 and is_truth(parts[0])


def _is_tell(parts):
    return len(parts) == 1 and is_text(parts[0])


def _is_take(parts):
    return len(parts) == 1 and is_letter(parts[0])


DEEDS = {
    "open": _is_open,
    "tell": _is_tell,
    "take": _is_take,
    "beat": _is_alone,
    "fall": _is_alone,
    "close": _is_alone,
}


def _is_row(thing):
    """Whether it is a tuple of a deed and of what else is told with it."""
    if type(thing) != tuple or len(thing) != 2:
        return False
    deed = thing[0]
    if not has_word(deed) or deed[0] not in DEEDS:
        return False
    fits = DEEDS[deed[0]]
    return fits(deed[1:])


def _is_just(thing, told):
    """Whether the thing is what was told, kind by kind: no True for 1, no list for a tuple."""
    if type(told) == tuple:
        if type(thing) != tuple or len(thing) != len(told):
            return False
        return all([_is_just(part, beside) for part, beside in zip(thing, told)])
    if type(told) == str:
        return type(thing) == str and thing == told
    if type(told) == bool:
        return is_truth(thing) and thing == told
    return type(thing) == int and thing == told


def _done(side, deed):
    """The letters that come of a deed; None where it can't be done."""
    word = deed[0]
    if word == "open":
        return side.greet(reset=deed[1]) if side.state() == OFF else None
    if word == "tell":
        return side.tell(deed[1])
    if word == "take":
        return side.take(deed[1])[1]
    if word == "beat":
        return side.beat()
    if word == "fall":
        return side.fall()
    return side.close()


def replayed(trace, name, *, make=PLAIN, pause=PAUSE, wide=WIDE):
    """A side over a new store, to which all of the trace was done."""
    if type(trace) != tuple:
        raise NoTrace(None)
    side = Side(Store(), name, make=make, pause=pause, wide=wide)
    for at, row in enumerate(trace):
        if not _is_row(row):
            raise NoTrace(at)
        letters = _done(side, row[0])
        if letters is None or not _is_just(row[1], letters):
            raise NoTrace(at)
    return side
