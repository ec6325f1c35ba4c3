"""Point 21: books that part."""

import random
import unittest

from gapfill.books import parted
from gapfill.errors import NoRows
from tests.runs import OTHER, worlds
from tests.things import put_otherwise, refused, strangers

WORDS = ((0, 1, "one"), (0, 3, "two"), (0, 4, "three"), (2, 1, "four"), (2, 7, "five"), (5, 9, "six"))


def told(*rows):
    """Rows of what was heard."""
    return tuple([row + (False,) for row in rows])


def by_hand(words, heard):
    """The same, place by place, by the words of point 21."""
    places = sorted([row[:2] for row in words] + [row[:2] for row in heard])
    for place in places:
        text = [row[2] for row in words if row[:2] == place]
        there = [row[2] for row in heard if row[:2] == place]
        later = [row for row in heard if row[0] == place[0] and row[1] > place[1]]
        if there and there != text:
            return place
        if text and not there and later:
            return place
    return None


def rises(rows):
    return all(one[:2] < other[:2] for one, other in zip(rows, rows[1:]))


class Parted(unittest.TestCase):
    def part(self, place, words, heard):
        self.assertEqual(repr(parted(words, heard)), repr(place))
        self.assertEqual(repr(parted(heard=heard, words=words)), repr(place))
        self.assertEqual(by_hand(words, heard), place)

    def test_books_that_agree(self):
        self.part(None, (), ())
        self.part(None, WORDS, ())
        self.part(None, WORDS, told(*WORDS))
        self.part(None, WORDS, tuple([row + (True,) for row in WORDS]))
        for last in range(len(WORDS)):
            self.part(None, WORDS[last:], told(*WORDS[last:]))

    def test_ends_that_are_not_heard(self):
        for heard in (WORDS[:2], WORDS[:5], WORDS[:1] + WORDS[3:4], WORDS[:1] + WORDS[5:], WORDS[3:4], WORDS[5:], WORDS[3:5]):
            self.part(None, WORDS, told(*heard))

    def test_a_word_that_is_lacking(self):
        self.part((0, 1), WORDS, told(*WORDS[1:]))
        self.part((0, 3), WORDS, told(*WORDS[:1], *WORDS[2:]))
        self.part((2, 1), WORDS, told(*WORDS[:3], *WORDS[4:]))
        self.part((2, 1), WORDS, told(*WORDS[4:]))
        self.part((0, 1), WORDS, told(WORDS[2], WORDS[4]))
        # The later one may be one that was never a word.
        self.part((0, 1), WORDS, told((0, 2, "x")))
        self.part((0, 4), WORDS, told(*WORDS[:2], (0, 5, "x")))
        self.part((2, 7), WORDS, told(*WORDS[:4], (2, 9999, "x")))
        # One of another round is no later one of that round.
        self.part((1, 9), WORDS, told(*WORDS[:2], (1, 9, "x")))
        self.part((3, 1), WORDS, told(*WORDS[:4], (3, 1, "x")))

    def test_a_text_otherwise(self):
        for at, (turn, number, _) in enumerate(WORDS):
            self.part((turn, number), WORDS, told(*WORDS[:at], (turn, number, "x"), *WORDS[at + 1:]))
            self.part((turn, number), WORDS, told(*WORDS[:at], (turn, number, "x")))
            self.part((turn, number), WORDS[:at] + ((turn, number, "x"),) + WORDS[at + 1:], told(*WORDS))

    def test_a_row_too_many(self):
        for row in ((0, 2, "x"), (0, 2, "one"), (0, 9, "x"), (1, 1, "one"), (2, 2, "four"), (5, 8, "six"), (5, 10, "x"),
                    (9, 1, "x")):
            rows = tuple(sorted(WORDS + (row,)))
            self.part(row[:2], WORDS, told(*rows))
            self.part(row[:2], (), told(row))
        self.part((0, 1), (), told(*WORDS))

    def test_the_first_of_several(self):
        self.part((0, 3), WORDS, told(WORDS[0], WORDS[2], (2, 1, "x")))
        self.part((0, 3), WORDS, told(WORDS[0], (0, 3, "x"), (2, 1, "x"), (2, 5, "y")))
        self.part((0, 2), WORDS, told(WORDS[0], (0, 2, "x"), WORDS[2]))
        self.part((0, 1), WORDS, told((0, 2, "x"), (0, 3, "y")))
        self.part((2, 1), WORDS, told(*WORDS[:3], (2, 3, "x"), (5, 9, "y")))
        self.part((2, 1), WORDS, told(*WORDS[:3], WORDS[4], (5, 9, "y")))
        self.part((2, 8), WORDS, told(*WORDS[:5], (2, 8, "x"), (5, 9, "y")))

    def test_doubts_do_not_count(self):
        for doubt in (True, False):
            self.part(None, WORDS[:1], (WORDS[0] + (doubt,),))
            self.part((0, 1), WORDS[:1], ((0, 1, "x", doubt),))
            self.part((0, 1), WORDS[:2], (WORDS[1] + (doubt,),))

    def test_bounds(self):
        words = ((0, 1, "a"), (0, 9999, "z 9"), (999, 1, " "), (999, 9999, "a" * 20))
        self.part(None, words, told(*words))
        self.part((999, 1), words, told(words[3]))
        self.part((999, 9999), words, told(*words[:3], (999, 9999, "a" * 19)))

    def test_some_rows(self):
        chance = random.Random(21)
        places = {None: 0}
        for _ in range(3000):
            words, heard = [], []
            for turn in range(3):
                for number in range(1, 4):
                    if chance.random() < 0.6:
                        words.append((turn, number, chance.choice("ab")))
                    if chance.random() < 0.4 + 0.3 * (chance.random() < 0.5):
                        near = words[-1] if words and words[-1][:2] == (turn, number) and chance.random() < 0.9 else (turn,
                                                                                                                      number, "a")
                        heard.append(near + (chance.random() < 0.5,))
            place = by_hand(words, heard)
            places[place] = places.get(place, 0) + 1
            self.part(place, tuple(words), tuple(heard))
        self.assertGreater(places[None], 40)
        self.assertEqual(len(places), 10)

    def test_in_runs(self):
        agree, refusals = 0, 0
        for _, world in worlds(150, cuts=True):
            for name in "ab":
                words, heard = world.words(name), world.heard(OTHER[name])
                if rises(words) and rises(heard):
                    place = by_hand(words, heard)
                    agree += place is None
                    self.part(place, words, heard)
                else:
                    refusals += 1
                    refused(self, NoRows, parted, words, heard)
        self.assertGreater(min(agree, refusals), 20)

    def test_rows_handed_in_stay(self):
        words, heard = WORDS, told(*WORDS)
        shown = repr((words, heard))
        parted(words, heard)
        self.assertEqual(repr((words, heard)), shown)


class Refused(unittest.TestCase):
    def not_so(self, at, words, heard):
        self.assertEqual(repr(refused(self, NoRows, parted, words, heard).at), repr(at))
        self.assertEqual(repr(refused(self, NoRows, parted, heard=heard, words=words).at), repr(at))

    def test_no_tuple(self):
        for thing in [thing for thing in strangers() if type(thing) is not tuple] + [list(WORDS), dict(enumerate(WORDS)),
                                                                                     iter(WORDS), "one", 7, True]:
            self.not_so(None, thing, ())
            self.not_so(None, thing, None)
            self.not_so(None, (), thing)
            self.not_so(None, WORDS, thing)

    def test_words_ahead_of_heard(self):
        self.not_so(0, (7,), None)
        self.not_so(1, WORDS[:1] + (7,), (7,))
        self.not_so(None, None, (7,))

    def test_each_number(self):
        for at in range(len(WORDS)):
            for thing in strangers() + (list(WORDS[at]), WORDS[at][:2], WORDS[at] + (False,), WORDS[at] + (None,)):
                self.not_so(at, WORDS[:at] + (thing,) + WORDS[at + 1:], ())
                self.not_so(at, WORDS[:at] + (thing, None), None)
            row = told(WORDS[at])[0]
            for thing in strangers() + (list(row), row[:3], row + (False,), row[:3] + (0,), row[:3] + (None,), row[:3] + ("no",)):
                self.not_so(at, WORDS, told(*WORDS[:at]) + (thing,) + told(*WORDS[at + 1:]))
                self.not_so(at, WORDS, told(*WORDS[:at]) + (thing, None))

    def test_one_thing_put_otherwise(self):
        for thing in put_otherwise((3, 7, "hi")):
            self.not_so(0, (thing,), ())
        for thing in put_otherwise((3, 7, "hi", True)):
            self.not_so(0, (), (thing,))

    def test_bounds(self):
        for row in ((-1, 1, "a"), (1000, 1, "a"), (0, 0, "a"), (0, -1, "a"), (9, 0, "a"), (9, -1, "a"), (9, 10000, "a"),
                    (0, 10000, "a"), (0, 1, ""), (0, 1, "a" * 21), (0, 1, "A"), (0, 1, "a,"),
                    (False, 1, "a"), (0, True, "a"), (True, True, "a"), ("0", 1, "a"), (0, "1", "a"), (0, 1, 1),
                    (0, 1, None), (0, 1, b"a")):
            self.not_so(0, (row,), ())
            self.not_so(0, (), told(row))
            self.not_so(2, WORDS[:2] + (row,), ())
            self.not_so(3, WORDS, told(*WORDS[:3], row))

    def test_rows_that_do_not_rise(self):
        for at in range(1, len(WORDS)):
            for back in range(at):
                self.not_so(at, WORDS[:at] + (WORDS[back],) + WORDS[at:], ())
                self.not_so(at, WORDS, told(*WORDS[:at], WORDS[back], *WORDS[at:]))
            turn, number, _ = WORDS[at - 1]
            self.not_so(at, WORDS[:at] + ((turn, number, "x"),), ())
            self.not_so(at, WORDS, told(*WORDS[:at], (turn, number, "x")))
        # A greater number in an elder round, and a greater round with a less number.
        self.not_so(1, ((1, 1, "a"), (0, 9, "b")), ())
        self.not_so(1, (), told((1, 1, "a"), (0, 9, "b")))
        self.assertIsNone(parted(((0, 9, "a"), (1, 1, "b")), told((0, 9, "a"), (1, 1, "b"))))
        # The first row that isn't so, whatever stands behind it.
        self.not_so(2, WORDS[:2] + WORDS[:2] + (None, 7), ())

    def test_what_is_told_of_it(self):
        error = refused(self, NoRows, parted, WORDS, None)
        self.assertIsInstance(error, ValueError)


if __name__ == "__main__":
    unittest.main()
