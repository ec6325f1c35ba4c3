"""Point 8: what answers an ask."""

import unittest

from gapfill.answers import answered
from gapfill.errors import NoAsk, NoSide, NoStore
from gapfill.stores import Store
from tests.things import fill, refused, strangers, word

# Words have 2, 3, 6 and 9; own letters 1, 4 and 5, numbers 7 and 8 are skipped, 10 is an own one; 11 is next.
ENTRIES = (
    ("tell", "two"), ("tell", "three"), ("tell", "six"), ("own",), ("word",), ("word",), ("own",), ("own",), ("word",),
    ("skip", 9), ("tell", "nine"), ("tell", "waits"), ("word",), ("own",),
)
WHOLE = (
    fill(1, 2), word(2, "two", again=True), word(3, "three", again=True), fill(4, 6), word(6, "six", again=True),
    fill(7, 9), word(9, "nine", again=True), fill(10, 11),
)


def stored(entries=ENTRIES):
    store = Store()
    store.put_all(entries)
    return store


def one_by_one(store, name, first, last):
    """The same, number by number, by the words of point 8."""
    words = dict(store.words())
    letters = []
    for number in range(first, store.next_out()):
        if last != 0 and number > last:
            break
        if number in words:
            letters.append((name, number, True, ("word", words[number])))
        elif letters and letters[-1][3] == ("fill", number):
            letters[-1] = letters[-1][:3] + (("fill", number + 1),)
        else:
            letters.append((name, number, True, ("fill", number + 1)))
    return tuple(letters)


class Answered(unittest.TestCase):
    def same(self, told, letters):
        self.assertEqual(repr(told), repr(letters))

    def test_all_numbers(self):
        self.same(answered(stored(), "b", 1, 0), WHOLE)
        self.same(answered(stored(), "b", 1, 10), WHOLE)
        self.same(answered(store=stored(), name="b", first=1, last=0), WHOLE)
        self.same(answered(stored(), "a", 1, 0), tuple([("a",) + letter[1:] for letter in WHOLE]))

    def test_some_numbers(self):
        self.same(answered(stored(), "b", 3, 6), WHOLE[2:5])
        self.same(answered(stored(), "b", 2, 2), WHOLE[1:2])
        self.same(answered(stored(), "b", 1, 1), WHOLE[:1])
        self.same(answered(stored(), "b", 6, 0), WHOLE[4:])

    def test_parts_of_a_run(self):
        self.same(answered(stored(), "b", 4, 4), (fill(4, 5),))
        self.same(answered(stored(), "b", 5, 5), (fill(5, 6),))
        self.same(answered(stored(), "b", 5, 7), (fill(5, 6), WHOLE[4], fill(7, 8)))
        self.same(answered(stored(), "b", 8, 0), (fill(8, 9), WHOLE[6], fill(10, 11)))

    def test_at_and_beyond_the_next_number(self):
        self.same(answered(stored(), "b", 10, 0), WHOLE[7:])
        self.same(answered(stored(), "b", 10, 11), WHOLE[7:])
        self.same(answered(stored(), "b", 9, 9999), WHOLE[6:])
        for first, last in ((11, 0), (11, 11), (11, 9999), (12, 0), (9999, 0), (9999, 9999)):
            self.same(answered(stored(), "b", first, last), ())

    def test_each_first_and_last(self):
        for first in range(1, 14):
            for last in [0, 9999] + list(range(first, 14)):
                self.same(answered(stored(), "b", first, last), one_by_one(stored(), "b", first, last))

    def test_a_store_without_numbers(self):
        for store in (Store(), stored((("tell", "hi"), ("heard", "ho", False))), stored(ENTRIES + (("round", 1),))):
            self.same(answered(store, "b", 1, 0), ())
            self.same(answered(store, "b", 1, 9999), ())

    def test_words_of_this_round_alone(self):
        store = stored(ENTRIES + (("round", 1), ("own",), ("word",)))
        self.same(answered(store, "b", 1, 0), (fill(1, 2), word(2, "waits", again=True)))

    def test_the_greatest_numbers(self):
        store = stored((("tell", "hi"), ("tell", "ho"), ("word",), ("skip", 9999), ("word",)))
        self.same(answered(store, "b", 1, 0), (word(1, "hi", again=True), fill(2, 9999), word(9999, "ho", again=True)))
        self.same(answered(store, "b", 9999, 9999), (word(9999, "ho", again=True),))
        self.same(answered(stored((("skip", 10000),)), "a", 1, 9999), (fill(1, 10000, side="a"),))
        self.same(answered(stored((("skip", 10000),)), "a", 9999, 0), (fill(9999, 10000, side="a"),))

    def test_the_store_stays_as_it_was(self):
        store = stored()
        answered(store, "b", 1, 0)
        refused(self, NoAsk, answered, store, "b", 0, 0)
        self.assertEqual(store.entries(), ENTRIES)
        self.assertEqual((store.next_out(), store.next_in(), store.waiting()), (11, 1, ("waits",)))

    def test_what_was_told_stays(self):
        store = stored()
        told = answered(store, "b", 1, 0)
        store.put(("round", 1))
        self.same(told, WHOLE)


class Refused(unittest.TestCase):
    def test_no_store(self):
        for thing in strangers() + (ENTRIES, Store, "Store(0)"):
            refused(self, NoStore, answered, thing, "b", 1, 0)

    def test_no_side(self):
        for thing in strangers() + ("c", "ab", True, 0):
            refused(self, NoSide, answered, stored(), thing, 1, 0)

    def test_no_ask(self):
        for first, last in ((0, 0), (-1, 0), (10000, 0), (2, 1), (5, 4), (1, 10000), (1, -1), (True, 0), (1, True), (1, False),
                            (True, True), ("1", 0), (1, "0"), (None, 0), (1, None), (10 ** 40, 0), (1, 10 ** 40)):
            refused(self, NoAsk, answered, stored(), "b", first, last)
            refused(self, NoAsk, answered, store=stored(), name="b", first=first, last=last)
        for thing in strangers():
            refused(self, NoAsk, answered, stored(), "b", thing, 0)
            refused(self, NoAsk, answered, stored(), "b", 1, thing)

    def test_from_the_left_however_handed_in(self):
        refused(self, NoStore, answered, None, None, None, None)
        refused(self, NoStore, answered, last=None, first=None, name=None, store=None)
        refused(self, NoSide, answered, stored(), None, None, None)
        refused(self, NoSide, answered, last=None, first=None, name=None, store=stored())
        refused(self, NoAsk, answered, stored(), "a", None, None)


if __name__ == "__main__":
    unittest.main()
