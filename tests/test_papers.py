"""Point 24: papers of the house, taken by the checker."""

import unittest

from gapfill.answers import answered
from gapfill.books import parted
from gapfill.bounds import PAUSE, PLAIN, WIDE, WINDOWED
from gapfill.checker import holds
from gapfill.errors import NoAsk, NoMake, NoPause, NoRows, NoSide, NoStore, NoTrace, NoWide
from gapfill.papers import paper_awaits, paper_books, paper_filled, paper_trace
from gapfill.sides import Side
from gapfill.stores import Store
from tests.runs import OTHER, wild_sides, worlds
from tests.test_books import WORDS, told
from tests.test_stores import ALL, stored
from tests.test_traces import played
from tests.things import bye, refused, strangers


class PaperCase(unittest.TestCase):
    def tells(self, handed, claim, paper=None):
        self.assertEqual(repr(handed), repr((claim, paper)))
        self.assertIs(type(handed), tuple)
        self.assertIs(holds(*handed), True)


class Traces(PaperCase):
    def test_kept(self):
        for name in "ab":
            trace = played(name).trace()
            self.tells(paper_trace(trace, name), ("kept", (name, PLAIN, PAUSE, WIDE), trace))
            self.tells(paper_trace(name=name, trace=trace), ("kept", (name, "plain", 5, 8), trace))
            trace = played(name, make=WINDOWED, pause=3, wide=2).trace()
            self.tells(paper_trace(trace, name, make=WINDOWED, pause=3, wide=2), ("kept", (name, WINDOWED, 3, 2), trace))
            self.tells(paper_trace((), name, wide=99), ("kept", (name, PLAIN, PAUSE, 99), ()))

    def test_breaks(self):
        trace = played().trace()
        for at in (0, 1, 5, len(trace) - 1, len(trace)):
            for thing in strangers() + ((("beat",), (bye(),)), (("take", 7), ())):
                broken = trace[:at] + (thing,) + trace[at:]
                told_of_it = paper_trace(broken, "a")
                self.assertEqual((told_of_it[0][:2], told_of_it[0][3], told_of_it[1]),
                                 (("breaks", ("a", PLAIN, PAUSE, WIDE)), at, None))
                self.assertIs(told_of_it[0][2], broken)
                self.assertIs(type(told_of_it[0][3]), int)
                self.assertIs(holds(*told_of_it), True)
        self.tells(paper_trace(trace, "b"), ("breaks", ("b", PLAIN, PAUSE, WIDE), trace, 5))

    def test_of_another_rule(self):
        trace = played(make=WINDOWED, pause=3, wide=3).trace()
        for rule in ({"make": PLAIN, "pause": 3, "wide": 3}, {"make": WINDOWED, "pause": 4, "wide": 3},
                     {"make": WINDOWED, "pause": 3, "wide": 1}):
            claim, paper = paper_trace(trace, "a", **rule)
            self.assertEqual((claim[0], paper), ("breaks", None))
            self.assertEqual(claim[1], ("a", rule["make"], rule["pause"], rule["wide"]))
            self.assertIs(holds(claim, paper), True)

    def test_of_sides(self):
        for side, name, rule in wild_sides(150):
            whole = (name, rule["make"], rule["pause"], rule["wide"])
            self.tells(paper_trace(side.trace(), name, **rule), ("kept", whole, side.trace()))

    def test_refused(self):
        for thing in [thing for thing in strangers() if type(thing) is not tuple] + [list(played().trace()), Side(Store(), "a")]:
            self.assertIsNone(refused(self, NoTrace, paper_trace, thing, None, make=None, pause=None, wide=None).at)
            self.assertIsNone(refused(self, NoTrace, paper_trace, name="a", trace=thing).at)
        for odd in ((), (None,), played().trace()):
            for thing in strangers() + ("c", True):
                refused(self, NoSide, paper_trace, odd, thing, make=None, pause=None, wide=None)
            for thing in strangers() + ("Plain", True):
                refused(self, NoMake, paper_trace, odd, "a", wide=None, pause=None, make=thing)
            for thing in strangers() + (2, 61, True):
                refused(self, NoPause, paper_trace, odd, "a", wide=None, pause=thing)
            for thing in strangers() + (0, 100, True):
                refused(self, NoWide, paper_trace, odd, "a", wide=thing)
        self.assertRaises(TypeError, paper_trace, (), "a", PLAIN)


class Books(PaperCase):
    def test_agree(self):
        for words, heard in (((), ()), (WORDS, ()), (WORDS, told(*WORDS)), (WORDS, told(*WORDS[:3]))):
            self.tells(paper_books(words, heard), ("agree", words, heard))
            self.tells(paper_books(heard=heard, words=words), ("agree", words, heard))

    def test_parts(self):
        for words, heard, turn, number in ((WORDS, told(*WORDS[1:]), 0, 1), (WORDS, told((2, 7, "five")), 2, 1),
                                           ((), told((9, 3, "x")), 9, 3),
                                           (WORDS, told(*WORDS[:5], (5, 9, "x")), 5, 9)):
            self.tells(paper_books(words, heard), ("parts", words, heard, turn, number))

    def test_of_worlds(self):
        for _, world in worlds(60, resets=True, cuts=True):
            for name in "ab":
                words, heard = world.words(name), world.heard(OTHER[name])
                try:
                    place = parted(words, heard)
                except NoRows as error:
                    self.assertEqual(refused(self, NoRows, paper_books, words, heard).at, error.at)
                    continue
                claim = ("agree", words, heard) if place is None else ("parts", words, heard) + place
                self.tells(paper_books(words, heard), claim)

    def test_refused(self):
        for thing in [thing for thing in strangers() if type(thing) is not tuple] + [list(WORDS)]:
            self.assertIsNone(refused(self, NoRows, paper_books, thing, (7,)).at)
            self.assertIsNone(refused(self, NoRows, paper_books, WORDS, thing).at)
        for thing in strangers():
            self.assertEqual(refused(self, NoRows, paper_books, WORDS[:2] + (thing,), None).at, 2)
            self.assertEqual(refused(self, NoRows, paper_books, WORDS, told(*WORDS[:3]) + (thing, None)).at, 3)


class Stores(PaperCase):
    def test_filled(self):
        for entries in (ALL, ALL[:8], ()):
            store = stored(*entries)
            for name in "ab":
                for first, last in ((1, 0), (2, 7), (3, 3), (9999, 9999)):
                    letters = answered(store, name, first, last)
                    self.tells(paper_filled(store, name, first, last), ("filled", entries, name, first, last), letters)
                    self.tells(paper_filled(last=last, first=first, name=name, store=store),
                               ("filled", entries, name, first, last), letters)
            self.assertEqual(store.entries(), entries)

    def test_awaits(self):
        for many in range(len(ALL) + 1):
            store = stored(*ALL[:many])
            self.tells(paper_awaits(store), ("awaits", ALL[:many], store.round(), store.next_in()))
            self.tells(paper_awaits(store=store), ("awaits", ALL[:many], store.round(), store.next_in()))
        store = stored(*ALL)
        store.cut(2)
        self.tells(paper_awaits(store), ("awaits", ALL[:-2] + (("lost",),), 1, 4))

    def test_of_worlds(self):
        for _, world in worlds(60, resets=True, cuts=True):
            for name in "ab":
                store = world.side(name).store()
                self.tells(paper_awaits(store), ("awaits", store.entries(), store.round(), store.next_in()))
                self.tells(paper_filled(store, name, 1, 0), ("filled", store.entries(), name, 1, 0), answered(store, name, 1, 0))

    def test_refused(self):
        for thing in strangers() + (ALL, Store):
            refused(self, NoStore, paper_awaits, thing)
            refused(self, NoStore, paper_awaits, store=thing)
            refused(self, NoStore, paper_filled, thing, None, None, None)
        for thing in strangers() + ("c", True):
            refused(self, NoSide, paper_filled, stored(*ALL), thing, None, None)
        for first, last in ((0, 0), (10000, 0), (5, 4), (1, 10000), (True, 0), (1, False), (None, 0), (1, None), ("1", 0)):
            refused(self, NoAsk, paper_filled, Store(), "a", first, last)
        for thing in strangers():
            refused(self, NoAsk, paper_filled, Store(), "a", thing, 0)
            refused(self, NoAsk, paper_filled, Store(), "a", 1, thing)


if __name__ == "__main__":
    unittest.main()
