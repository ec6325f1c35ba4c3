"""Letters as texts: each with its length and its sum, so that a text that was marred is told by them."""

from gapfill.bounds import SIGNS
from gapfill.errors import NoText
from gapfill.letters import is_letter, need_letter
from gapfill.parts import is_number, read_part, show_part, show_parts

LENGTH = "length="
SUM = "sum="
SUM_BELOW = 997


def _sum_of(text):
    total = 0
    for at, sign in enumerate(text, start=1):
        # What isn't in SIGNS is found at -1, and so counts 0.
        total += (SIGNS.find(sign) + 1) * at
    return total % SUM_BELOW


def _show_ahead(letter):
    """What stands ahead of the length."""
    sender, number, again, body = letter
    behind = show_parts(body[1:])
    return f"from={sender}|number={number}|again={show_part(again)}|{body[0]}={behind}"


def show_letter(letter):
    """The letter's text."""
    need_letter(letter)
    ahead = _show_ahead(letter)
    text = f"{ahead}|{LENGTH}{len(ahead)}"
    return f"{text}|{SUM}{_sum_of(text)}"


def _is_numbered(part, name):
    """Whether the part has this name, and a number behind it."""
    return part.startswith(name) and is_number(part[len(name):])


def _read_body(part):
    word, _, behind = part.partition("=")
    if word == "word":
        return (word, behind)
    if behind == "":
        return (word,)
    return (word,) + tuple([read_part(text) for text in behind.split(",")])


def _read_ahead(ahead):
    """The letter so written; what is read loosely here counts only if it is written just so again."""
    parts = ahead.split("|")
    if len(parts) != 4:
        raise NoText("form")
    sender, number, again = [part.partition("=")[2] for part in parts[:3]]
    letter = (sender, read_part(number), read_part(again), _read_body(parts[3]))
    if not is_letter(letter) or _show_ahead(letter) != ahead:
        raise NoText("form")
    return letter


def read_letter(text):
    """The letter that is so written."""
    if type(text) != str:
        raise NoText("form")
    parts = text.rsplit("|", 2)
    if len(parts) != 3 or not _is_numbered(parts[1], LENGTH) or not _is_numbered(parts[2], SUM):
        raise NoText("form")
    ahead, length, total = parts
    # Compared as texts: the figures of a number that came may be too many to be read.
    if length != f"{LENGTH}{len(ahead)}":
        raise NoText("length")
    right = _sum_of(f"{ahead}|{length}")
    if total != f"{SUM}{right}":
        raise NoText("sum")
    return _read_ahead(ahead)
