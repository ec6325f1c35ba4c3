"""Letters: what one is, whether a side sends it on its own, and how far it reaches.

Each question about a kind asks for the very kind, and only then looks inside: so whatever is handed
in, a True for 1 or an object with a will of its own, is told to be none, without an error.
"""

from gapfill.bounds import MOST_NUMBER, MOST_ROUND, MOST_SIGNS, SIDES, TEXT_SIGNS
from gapfill.errors import NoLetter, NoSide


def is_whole(thing, low, high):
    """Whether it is a whole number from low to high."""
    return type(thing) == int and low <= thing <= high


def is_truth(thing):
    """Whether it is True or False."""
    return type(thing) == bool


def is_side(thing):
    """Whether it is a SIDE."""
    return type(thing) == str and thing in SIDES


def is_text(thing):
    """Whether it is a TEXT."""
    if type(thing) != str or not 1 <= len(thing) <= MOST_SIGNS:
        return False
    return all([sign in TEXT_SIGNS for sign in thing])


def has_word(thing):
    """Whether it is a tuple with some word first."""
    if type(thing) != tuple or len(thing) == 0:
        return False
    word = thing[0]
    return type(word) == str


def _is_word(parts):
    return len(parts) == 1 and is_text(parts[0])


def _is_beat(parts):
    return len(parts) == 1 and is_whole(parts[0], 0, MOST_NUMBER)


def _is_test(parts):
    return len(parts) == 1 and is_whole(parts[0], 1, MOST_NUMBER)


def _is_ask(parts):
    if len(parts) != 2:
        return False
    first, last = parts
    if not is_whole(first, 1, MOST_NUMBER):
        return False
    return is_whole(last, 0, 0) or is_whole(last, first, MOST_NUMBER)


def _is_fill(parts):
    return len(parts) == 1 and is_whole(parts[0], 2, MOST_NUMBER + 1)


def _is_hello(parts):
    if len(parts) != 6:
        return False
    turn, top, awaited, past, reset, reply = parts
    if not is_whole(turn, 0, MOST_ROUND) or not is_whole(top, 0, MOST_NUMBER):
        return False
    if not is_whole(awaited, 1, MOST_NUMBER + 1) or not is_whole(past, 0, MOST_NUMBER + 1):
        return False
    return is_truth(reset) and is_truth(reply)


def _is_bye(parts):
    return len(parts) == 0


BODIES = {
    "word": _is_word,
    "beat": _is_beat,
    "test": _is_test,
    "ask": _is_ask,
    "fill": _is_fill,
    "hello": _is_hello,
    "bye": _is_bye,
}


def is_body(thing):
    """Whether it is a BODY: of a fill, one behind some number at all."""
    if not has_word(thing) or thing[0] not in BODIES:
        return False
    fits = BODIES[thing[0]]
    return fits(thing[1:])


def _go_together(number, again, body):
    """Whether a letter of this body may have this number, and may be AGAIN or not, as it is."""
    word = body[0]
    if word == "hello" or word == "bye":
        return number == 0 and not again
    if number == 0:
        return False
    if word == "word":
        return True
    if word == "fill":
        return again and body[1] > number
    return not again


def is_letter(thing):
    """Whether it is a LETTER."""
    if type(thing) != tuple or len(thing) != 4:
        return False
    sender, number, again, body = thing
    if not is_side(sender) or not is_whole(number, 0, MOST_NUMBER):
        return False
    if not is_truth(again) or not is_body(body):
        return False
    return _go_together(number, again, body)


def need_letter(thing):
    """Refuse what is no letter."""
    if not is_letter(thing):
        raise NoLetter("this is no letter")


def need_side(thing):
    """Refuse what is no SIDE."""
    if not is_side(thing):
        raise NoSide("this is no name of a side")


def is_own(letter):
    """Whether the letter is numbered and no word."""
    need_letter(letter)
    return letter[1] > 0 and letter[3][0] != "word"


def reach(letter):
    """The number behind the letter: NEXT of a fill, else its number and one."""
    need_letter(letter)
    body = letter[3]
    if body[0] == "fill":
        return body[1]
    return letter[1] + 1
