"""Papers: claims of the house, each with the paper by which the checker takes it."""

from gapfill.answers import answered
from gapfill.books import parted
from gapfill.bounds import PAUSE, PLAIN, WIDE
from gapfill.errors import NoTrace
from gapfill.stores import need_store
from gapfill.traces import replayed


def paper_trace(trace, name, *, make=PLAIN, pause=PAUSE, wide=WIDE):
    """The trace is one of such a side, or breaks at some row."""
    rule = (name, make, pause, wide)
    try:
        replayed(trace, name, make=make, pause=pause, wide=wide)
    except NoTrace as refusal:
        # Of no tuple there is no claim: it is refused here, too.
        if refusal.at is None:
            raise
        return ("breaks", rule, trace, refusal.at), None
    return ("kept", rule, trace), None


def paper_books(words, heard):
    """The books agree, or part at some number."""
    place = parted(words, heard)
    if place is None:
        return ("agree", words, heard), None
    return ("parts", words, heard, place[0], place[1]), None


def paper_filled(store, name, first, last):
    """What answers an ask, of a store of these entries."""
    letters = answered(store, name, first, last)
    return ("filled", store.entries(), name, first, last), letters


def paper_awaits(store):
    """What a store of these entries awaits."""
    need_store(store)
    return ("awaits", store.entries(), store.round(), store.next_in()), None
