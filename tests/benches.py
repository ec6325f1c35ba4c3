"""Sides to be tried out: made, waiting, on, and all that one tells."""

import unittest

from gapfill.sides import Side
from gapfill.stores import Store
from tests.things import hello

TELLS = ("state", "seen", "idle", "quiet", "kept", "heard", "unsaid", "missing", "log", "trace")


def made(*entries, name="a", **rule):
    """A side that is off, over a store of these entries."""
    store = Store()
    store.put_all(entries)
    return Side(store, name, **rule)


def waiting(*entries, reset=False, **rule):
    side = made(*entries, **rule)
    side.greet(reset=reset)
    return side


def on(*entries, top=0, **rule):
    """One that is on by a reply of its own round, and has seen numbers to TOP."""
    side = waiting(*entries, **rule)
    side.take(hello(side.store().round(), top, 1, reply=True))
    assert side.state() == "on"
    return side


def stand(side):
    """All that a side tells, and its store."""
    store = side.store()
    told = {name: getattr(side, name)() for name in TELLS}
    told["entries"] = store.entries()
    return told


def inside(side):
    """All that a side has in it, as it shows itself, and its store."""
    return {name: repr(value) for name, value in vars(side).items()} | {"entries": side.store().entries()}


class SideCase(unittest.TestCase):
    def same(self, told, awaited):
        self.assertEqual(repr(told), repr(awaited))

    def changed(self, side, before, **parts):
        """The side stands as before, but for these parts; the trace is left to its own tests."""
        awaited = dict(before, **parts)
        found = stand(side)
        for name in found:
            if name != "trace":
                self.assertEqual(repr(found[name]), repr(awaited[name]), name)

    def takes(self, side, letter, word, *letters):
        """What take tells, and that it is written down."""
        log, trace = side.log(), side.trace()
        self.same(side.take(letter), (word, letters))
        self.same(side.log(), log + (word,))
        self.same(side.trace(), trace + ((("take", letter), letters),))
