"""Point 4: what a letter is, whether it is a side's own, and how far it reaches."""

import copy
import unittest

from gapfill.errors import GapError, NoLetter
from gapfill.letters import is_letter, is_own, reach
from tests.things import put_otherwise, strangers

# (AGAIN, BODY) -> reach of number 7, and whether it is an own one; hello and bye have number 0.
NUMBERED = (
    (False, ("word", "hi there 2"), 8, False),
    (True, ("word", "again"), 8, False),
    (False, ("beat", 0), 8, True),
    (False, ("test", 10), 8, True),
    (False, ("ask", 3, 9), 8, True),
    (False, ("ask", 3, 0), 8, True),
    (True, ("fill", 12), 12, True),
)
UNNUMBERED = (
    (False, ("hello", 3, 6, 2, 40, True, False), 1, False),
    (False, ("hello", 0, 0, 1, 0, False, True), 1, False),
    (False, ("bye",), 1, False),
)


def samples():
    """(letter, reach, own) of each word, from either side."""
    for side in "ab":
        for again, body, beyond, own in NUMBERED:
            yield (side, 7, again, body), beyond, own
        for again, body, beyond, own in UNNUMBERED:
            yield (side, 0, again, body), beyond, own


def numbered(number, body, again=False, side="a"):
    return (side, number, again, body)


def hello(turn=0, top=0, awaited=1, past=0, reset=False, reply=False, number=0, again=False):
    return ("a", number, again, ("hello", turn, top, awaited, past, reset, reply))


class LetterCase(unittest.TestCase):
    def yes(self, *letters):
        for letter in letters:
            self.assertIs(is_letter(letter), True, letter)

    def no(self, *things):
        for thing in things:
            told = is_letter(thing)
            if told is not False:
                self.fail(f"{told!r} of {thing!r}")


class IsLetter(LetterCase):
    def test_each_word_from_either_side(self):
        for letter, _, _ in samples():
            self.yes(letter)
            self.assertIs(is_letter(thing=letter), True)

    def test_sides(self):
        for side in ("c", "A", "B", "ab", "", " a", "a ", 0, 1, None, ("a",), ["a"], b"a"):
            self.no((side, 7, False, ("beat", 0)), (side, 0, False, ("bye",)))

    def test_number(self):
        for again, body in ((False, ("word", "hi")), (False, ("beat", 5)), (False, ("test", 5)),
                            (False, ("ask", 1, 2)), (True, ("fill", 10000))):
            self.yes(numbered(1, body, again), numbered(9999, body, again))
            self.no(numbered(0, body, again), numbered(10000, body, again), numbered(-1, body, again))

    def test_hello_and_bye_have_number_nought_alone(self):
        self.yes(hello(number=0), numbered(0, ("bye",)))
        for number in (1, 2, 9999, 10000, -1):
            self.no(hello(number=number), numbered(number, ("bye",)))

    def test_again(self):
        self.yes(numbered(7, ("word", "hi"), False), numbered(7, ("word", "hi"), True))
        self.yes(numbered(7, ("fill", 9), True))
        self.no(numbered(7, ("fill", 9), False))
        for body in (("beat", 0), ("test", 1), ("ask", 1, 0), ("ask", 2, 3)):
            self.yes(numbered(7, body, False))
            self.no(numbered(7, body, True))
        self.no(hello(again=True), numbered(0, ("bye",), True))

    def test_key_of_a_beat(self):
        self.yes(numbered(7, ("beat", 0)), numbered(7, ("beat", 1)), numbered(7, ("beat", 9999)))
        self.no(numbered(7, ("beat", -1)), numbered(7, ("beat", 10000)))

    def test_key_of_a_test(self):
        self.yes(numbered(7, ("test", 1)), numbered(7, ("test", 9999)))
        self.no(numbered(7, ("test", 0)), numbered(7, ("test", -1)), numbered(7, ("test", 10000)))

    def test_first_and_last_of_an_ask(self):
        for first, last in ((1, 0), (1, 1), (1, 9999), (9999, 9999), (9999, 0), (5, 5), (5, 6)):
            self.yes(numbered(7, ("ask", first, last)))
        for first, last in ((0, 0), (0, 5), (-1, 0), (10000, 0), (10000, 10000), (2, 1), (5, 4), (9999, 9998),
                            (1, 10000), (9999, 10000), (1, -1), (5, -5)):
            self.no(numbered(7, ("ask", first, last)))

    def test_next_of_a_fill(self):
        for number, behind in ((1, 2), (1, 10000), (7, 8), (7, 9), (9998, 9999), (9999, 10000)):
            self.yes(numbered(number, ("fill", behind), True))
        for number, behind in ((1, 1), (1, 0), (7, 7), (7, 6), (7, 1), (9999, 9999), (9999, 10001), (1, 10001),
                               (1, -1)):
            self.no(numbered(number, ("fill", behind), True))

    def test_round_of_a_hello(self):
        self.yes(hello(turn=0), hello(turn=1), hello(turn=999))
        self.no(hello(turn=-1), hello(turn=1000))

    def test_top_of_a_hello(self):
        self.yes(hello(top=0), hello(top=1), hello(top=9999))
        self.no(hello(top=-1), hello(top=10000))

    def test_next_of_a_hello(self):
        self.yes(hello(awaited=1), hello(awaited=9999), hello(awaited=10000))
        self.no(hello(awaited=0), hello(awaited=-1), hello(awaited=10001))

    def test_past_of_a_hello(self):
        self.yes(hello(past=0), hello(past=1), hello(past=9999), hello(past=10000))
        self.no(hello(past=-1), hello(past=10001))

    def test_truths_of_a_hello(self):
        for reset in (True, False):
            for reply in (True, False):
                self.yes(hello(reset=reset, reply=reply))
        for thing in (0, 1, None, "yes", "no", ()):
            self.no(hello(reset=thing), hello(reply=thing))

    def test_texts(self):
        signs = "abcdefghijklmnopqrstuvwxyz0123456789 "
        for sign in signs:
            self.yes(numbered(7, ("word", sign)), numbered(7, ("word", sign * 20)))
        self.yes(numbered(7, ("word", signs[:20])), numbered(7, ("word", signs[17:])))
        self.no(numbered(7, ("word", "")), numbered(7, ("word", "a" * 21)), numbered(7, ("word", " " * 21)))

    def test_signs_that_may_not_stand_in_a_text(self):
        may = "abcdefghijklmnopqrstuvwxyz0123456789 "
        others = [chr(code) for code in range(256) if chr(code) not in may]
        for sign in others + ["\u0661", "\u00b2", "\u0430", "\uff41", "\u2003", "\ud800", "\U0001f600"]:
            self.no(numbered(7, ("word", sign)), numbered(7, ("word", "ab" + sign)))
            self.no(numbered(7, ("word", sign + "ab")), numbered(7, ("word", "a" * 19 + sign)))

    def test_other_words(self):
        for word in ("", "words", "Word", "WORD", " word", "tell", "own", "skip", 7, None, True, ("word",), ["word"]):
            for rest in ((), ("hi",), (5,), (1, 2), (0, 0, 1, 0, False, False)):
                for number in (0, 7):
                    for again in (True, False):
                        self.no((word,) + rest, numbered(number, (word,) + rest, again))

    def test_another_body_behind_a_word(self):
        self.no(numbered(7, ("word", 5)), numbered(7, ("beat", "hi")), numbered(7, ("test", "5")))
        self.no(numbered(7, ("ask", "1", "2")), numbered(7, ("fill", "9"), True))
        self.no(numbered(0, ("hello",)), numbered(0, ("bye", 0)), numbered(0, ("bye", None)))
        self.no(numbered(7, ("beat", 1, 0)), numbered(7, ("ask", 1)), numbered(7, ("word", "hi", "hi")))

    def test_truths_where_a_number_stands(self):
        for truth in (True, False):
            self.no(numbered(truth, ("beat", 1)), numbered(truth, ("bye",)), numbered(7, ("beat", truth)))
            self.no(numbered(7, ("test", truth)), numbered(7, ("ask", truth, 0)), numbered(7, ("ask", 1, truth)))
            self.no(numbered(7, ("fill", truth), True), numbered(truth, ("fill", 9), True))
            self.no(hello(turn=truth), hello(top=truth), hello(awaited=truth), hello(past=truth))
            self.no(hello(number=truth))

    def test_numbers_where_a_truth_stands(self):
        for number in (0, 1):
            for letter, _, _ in samples():
                self.no(letter[:2] + (number,) + letter[3:])

    def test_one_thing_put_otherwise_at_each_place(self):
        for letter, _, _ in samples():
            for thing in put_otherwise(letter):
                self.no(thing)

    def test_things_of_all_kinds(self):
        self.no(*strangers())
        self.no("a", "letter", 0, 1, 7, True, False, "a|7", ("a", 7, False), list(numbered(7, ("beat", 0))))
        self.no({"from": "a"}, [], [[]], [()], dict.fromkeys("abcd"), "abcd", b"abcd", range(4), set("abcd"))

    def test_tuples_that_refuse_questions(self):
        class Refusing(tuple):
            def __len__(self):
                raise RuntimeError("asked for its length")

            def __iter__(self):
                raise RuntimeError("asked for its parts")

            def __getitem__(self, at):
                raise RuntimeError("asked for a part")

        self.no(Refusing(numbered(7, ("beat", 0))), numbered(7, Refusing(("beat", 0))))


class IsOwn(LetterCase):
    def test_of_each_word_by_place_and_name(self):
        for letter, _, own in samples():
            self.assertIs(is_own(letter), own, letter)
            self.assertIs(is_own(letter=letter), own, letter)

    def test_at_the_bounds(self):
        for number in (1, 9999):
            self.assertIs(is_own(numbered(number, ("beat", 0))), True)
            self.assertIs(is_own(numbered(number, ("fill", 10000), True)), True)
            self.assertIs(is_own(numbered(number, ("word", "hi"))), False)


class Reach(LetterCase):
    def same(self, told, number):
        self.assertEqual(told, number)
        self.assertIs(type(told), int)

    def test_of_each_word_by_place_and_name(self):
        for letter, beyond, _ in samples():
            self.same(reach(letter), beyond)
            self.same(reach(letter=letter), beyond)

    def test_at_the_bounds(self):
        self.same(reach(numbered(1, ("word", "hi"))), 2)
        self.same(reach(numbered(9999, ("beat", 3))), 10000)
        self.same(reach(numbered(1, ("fill", 2), True)), 2)
        self.same(reach(numbered(1, ("fill", 10000), True)), 10000)
        self.same(reach(numbered(9999, ("fill", 10000), True)), 10000)

    def test_only_a_fill_reaches_further(self):
        self.same(reach(numbered(3, ("ask", 5, 9))), 4)
        self.same(reach(numbered(3, ("test", 9))), 4)
        self.same(reach(hello(top=9, awaited=5)), 1)


class Refused(LetterCase):
    def refused(self, thing):
        for question in (is_own, reach):
            for ask in (lambda: question(thing), lambda: question(letter=thing)):
                try:
                    told = ask()
                except GapError as error:
                    self.assertIs(type(error), NoLetter)
                else:
                    self.fail(f"{question.__name__} told {told!r} of {thing!r}")

    def test_things_of_all_kinds(self):
        for thing in strangers():
            self.refused(thing)
        for thing in (0, 7, True, False, "letter", list(numbered(7, ("beat", 0)))):
            self.refused(thing)

    def test_one_thing_put_otherwise(self):
        for letter, _, _ in samples():
            for thing in put_otherwise(letter):
                self.refused(thing)

    def test_beyond_the_bounds(self):
        for thing in (numbered(0, ("word", "hi")), numbered(10000, ("word", "hi")), numbered(7, ("word", "a" * 21)),
                      numbered(7, ("fill", 7), True), numbered(7, ("fill", 9)), numbered(7, ("beat", 0), True),
                      numbered(1, ("bye",)), hello(turn=1000), hello(awaited=0)):
            self.refused(thing)


class AsItWas(LetterCase):
    def test_asking_changes_nothing_and_tells_the_same_again(self):
        for letter, beyond, own in samples():
            before = copy.deepcopy(letter)
            for _ in range(2):
                self.assertIs(is_letter(letter), True)
                self.assertIs(is_own(letter), own)
                self.assertEqual(reach(letter), beyond)
            self.assertEqual(repr(letter), repr(before))

    def test_what_is_no_letter_stays_too(self):
        for thing in (["a", 7, False, ["word", "hi"]], ("a", 7, False, ["word", "hi"]), {"a": [7]},
                      ("a", 7, False, ("word", ["h", "i"]))):
            before = copy.deepcopy(thing)
            for _ in range(2):
                self.assertIs(is_letter(thing), False)
                self.assertRaises(NoLetter, is_own, thing)
                self.assertRaises(NoLetter, reach, thing)
            self.assertEqual(thing, before)


if __name__ == "__main__":
    unittest.main()
