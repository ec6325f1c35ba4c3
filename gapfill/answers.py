"""Answers: what a side sends again where numbers of its own are asked for."""

from gapfill.errors import NoAsk
from gapfill.letters import is_body, need_side
from gapfill.stores import need_store


def _fill(name, number, behind):
    return (name, number, True, ("fill", behind))


def answered(store, name, first, last):
    """The letters from this side that answer an ask: its words again, and fills of all between them."""
    need_store(store)
    need_side(name)
    if not is_body(("ask", first, last)):
        raise NoAsk("these are no numbers to ask for")
    end = store.next_out()
    if last > 0:
        end = min(end, last + 1)
    letters = []
    unanswered = first
    for number, text in store.words():
        if first <= number < end:
            if unanswered < number:
                letters.append(_fill(name, unanswered, number))
            letters.append((name, number, True, ("word", text)))
            unanswered = number + 1
    if unanswered < end:
        letters.append(_fill(name, unanswered, end))
    return tuple(letters)
