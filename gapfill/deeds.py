"""Deeds: what can be done in a world of two sides."""

from gapfill.letters import has_word, is_side, is_text, is_truth


def _is_alone(parts):
    return len(parts) == 0


def _is_of_side(parts):
    return len(parts) == 1 and is_side(parts[0])


def _is_tell(parts):
    return len(parts) == 2 and is_side(parts[0]) and is_text(parts[1])


def _is_open(parts):
    return len(parts) == 2 and is_side(parts[0]) and is_truth(parts[1])


def _is_counted(parts):
    # No bound above: too great a number is told as no place, or as no count.
    return len(parts) == 2 and is_side(parts[0]) and type(parts[1]) == int and parts[1] >= 0


DEEDS = {
    "tell": _is_tell,
    "open": _is_open,
    "close": _is_of_side,
    "beat": _is_of_side,
    "bring": _is_counted,
    "lose": _is_counted,
    "double": _is_counted,
    "fall": _is_alone,
    "crash": _is_of_side,
    "cut": _is_counted,
}


def is_deed(thing):
    """Whether it is a DEED of some world."""
    if not has_word(thing) or thing[0] not in DEEDS:
        return False
    fits = DEEDS[thing[0]]
    return fits(thing[1:])
