"""Point 5: letters as texts, written and read, and why a text can't be read."""

import copy
import unittest

from gapfill.errors import NoLetter, NoText
from gapfill.lettertexts import read_letter, show_letter
from tests.things import bye, fill, hello, own, put_otherwise, refused, strangers, word

PLACES = {sign: place for place, sign in enumerate("abcdefghijklmnopqrstuvwxyz0123456789 =|,", start=1)}

# Each letter, what stands ahead of its length, and the numbers behind it, reckoned by hand from point 5.
WRITTEN = (
    (word(7, "hi", side="a"), "from=a|number=7|again=no|word=hi", 32),
    (word(12, "hi there 2", again=True), "from=b|number=12|again=yes|word=hi there 2", 42),
    (word(9999, "  ", side="a"), "from=a|number=9999|again=no|word=  ", 35),
    (word(1, "yes"), "from=b|number=1|again=no|word=yes", 33),
    (word(1, "007"), "from=b|number=1|again=no|word=007", 33),
    (own(7, "beat", 0, side="a"), "from=a|number=7|again=no|beat=0", 31),
    (own(10, "beat", 9999), "from=b|number=10|again=no|beat=9999", 35),
    (own(7, "test", 10), "from=b|number=7|again=no|test=10", 32),
    (own(7, "ask", 3, 0), "from=b|number=7|again=no|ask=3,0", 32),
    (own(7, "ask", 30, 9999), "from=b|number=7|again=no|ask=30,9999", 36),
    (fill(7, 10000, side="a"), "from=a|number=7|again=yes|fill=10000", 36),
    (hello(0, 0, 1, 0), "from=b|number=0|again=no|hello=0,0,1,0,no,no", 44),
    (hello(3, 40, 10000, 12, reset=True, side="a"), "from=a|number=0|again=no|hello=3,40,10000,12,yes,no", 51),
    (hello(999, 9999, 5, 10000, reply=True), "from=b|number=0|again=no|hello=999,9999,5,10000,no,yes", 54),
    (bye("a"), "from=a|number=0|again=no|bye=", 29),
)


def sum_of(text):
    """The sum by the words of point 5."""
    return sum(PLACES.get(sign, 0) * place for place, sign in enumerate(text, start=1)) % 997


def with_both(ahead):
    """The text with its length and sum made right, whatever stands ahead."""
    text = f"{ahead}|length={len(ahead)}"
    return f"{text}|sum={sum_of(text)}"


class Written(unittest.TestCase):
    def test_each_word_written_and_read_back(self):
        for letter, ahead, length in WRITTEN:
            text = show_letter(letter)
            self.assertEqual(text, f"{ahead}|length={length}|sum={sum_of(f'{ahead}|length={length}')}")
            self.assertIs(type(text), str)
            self.assertEqual(show_letter(letter=letter), text)
            for read in (read_letter(text), read_letter(text=text)):
                self.assertEqual(read, letter)
                self.assertEqual(repr(read), repr(letter))

    def test_sums_reckoned_by_hand(self):
        # By hand: "a" counts 1, "b" 2, a blank 37, "|" 39; other signs nothing, but they have their places.
        self.assertEqual(sum_of("ab"), 1 * 1 + 2 * 2)
        self.assertEqual(sum_of("Ab |,"), 2 * 2 + 37 * 3 + 39 * 4 + 40 * 5)
        self.assertEqual(show_letter(bye("a")), "from=a|number=0|again=no|bye=|length=29|sum=361")
        self.assertEqual(show_letter(word(7, "hi", side="a")), "from=a|number=7|again=no|word=hi|length=32|sum=173")

    def test_every_sign_of_a_text_counts(self):
        for sign in "abcdefghijklmnopqrstuvwxyz0123456789 ":
            ahead = f"from=a|number=7|again=no|word=x{sign}"
            self.assertEqual(show_letter(word(7, "x" + sign, side="a")), with_both(ahead))
            self.assertEqual(read_letter(with_both(ahead)), word(7, "x" + sign, side="a"))

    def test_every_number_of_some(self):
        for number in (1, 9, 10, 99, 100, 101, 999, 1000, 1010, 9998, 9999):
            for letter in (word(number, "hi", again=True), own(number, "ask", number, 0), fill(number, number + 1)):
                self.assertEqual(read_letter(show_letter(letter)), letter)

    def test_what_is_no_letter(self):
        for thing in strangers() + (True, 7, "from=a", [*bye()], fill(7, 7), own(0, "beat", 0), hello(1000)):
            refused(self, NoLetter, show_letter, thing)
            refused(self, NoLetter, show_letter, letter=thing)
        for letter in (word(7, "hi", side="a"), own(7, "ask", 3, 9), fill(7, 10000), hello(3, 6, 2, 40), bye()):
            for thing in put_otherwise(letter):
                refused(self, NoLetter, show_letter, thing)

    def test_letters_stay_as_they_were(self):
        for letter, _, _ in WRITTEN:
            before = copy.deepcopy(letter)
            self.assertEqual(show_letter(letter), show_letter(letter))
            self.assertEqual(repr(letter), repr(before))


class Unread(unittest.TestCase):
    def why(self, text, why):
        told = refused(self, NoText, read_letter, text).why
        self.assertEqual(told, why, text)
        self.assertEqual(refused(self, NoText, read_letter, text=text).why, why)

    def test_what_is_no_text(self):
        for thing in strangers():
            self.why(thing, "form")
        text = show_letter(bye())
        for thing in (text.encode(), list(text), (text,), [text], 7, True, bye()):
            self.why(thing, "form")

        class Derived(str):
            pass

        self.why(Derived(text), "form")

    def test_without_both_parts_at_the_end(self):
        whole = show_letter(word(7, "hi"))
        ahead, length, total = whole.rsplit("|", 2)
        for text in ("", "|", "||", "|||", "hi", ahead, f"{ahead}|{length}", f"{ahead}|{total}", f"{ahead}|{total}|{length}",
                     f"{length}|{total}", f"{total}", f"{length}", f"{ahead}||{length}{total}", f"{whole}|", f"{whole} ",
                     f"{whole}\n", f"{whole}|{ahead}", f"{ahead}|{length}|{ahead}|{total}", f"{ahead}|{length} |{total}",
                     f"{ahead}{length}|{total}", f"{ahead}|{length}{total}", f"{ahead}|x{length}|{total}",
                     f"{ahead}|{length}|x{total}", f"{ahead}\n{length}|{total}", f"{ahead}|{length}||{total}"):
            self.why(text, "form")

    def test_numbers_at_the_end_that_are_not_so_written(self):
        whole = show_letter(word(7, "hi"))
        ahead, length, total = whole.rsplit("|", 2)
        for number in ("", "0" + length[7:], "00", "01", "-1", "+5", " 5", "5 ", "5.0", "x", "5x", "x5", "0x5", "yes", "1_0",
                       "=5", "5,5"):
            self.why(f"{ahead}|length={number}|{total}", "form")
        for number in ("", "0" + total[4:], "00", "01", "-1", "+5", " 5", "5 ", "5.0", "x", "5x", "x5", "0x5", "no", "1_0",
                       "=5", "5,5", "5\n"):
            self.why(f"{ahead}|{length}|sum={number}", "form")
        for text in (f"{ahead}|Length=33|{total}", f"{ahead}|length|{total}", f"{ahead}|length:33|{total}",
                     f"{ahead}|{length}|Sum=5", f"{ahead}|{length}|sum", f"{ahead}|{length}|sum:5"):
            self.why(text, "form")

    def test_a_length_that_is_off(self):
        for letter, ahead, length in WRITTEN:
            for other in (length - 1, length + 1, 0, length * 10, 10 ** 60 + length, 10 ** 4400):
                text = f"{ahead}|length={'1' + '0' * 4400 if other == 10 ** 4400 else other}"
                self.why(f"{text}|sum={sum_of(text)}", "length")
                self.why(f"{text}|sum={sum_of(text) + 1}", "length")
                self.why(f"{text}|sum=0", "length")
        self.why("x|length=2|sum=0", "length")
        self.why("|length=1|sum=0", "length")

    def test_a_sum_that_is_off(self):
        for letter, ahead, length in WRITTEN:
            text = f"{ahead}|length={length}"
            total = sum_of(text)
            for other in {total - 1, total + 1, total + 997, 0, 10 ** 60 + total} - {total, -1}:
                self.why(f"{text}|sum={other}", "sum")
            self.why(f"{text}|sum=9{'0' * 4400}", "sum")
        self.why("x|length=1|sum=0", "sum")
        self.why("|length=0|sum=0", "sum")

    def test_signs_changed_and_exchanged(self):
        ahead, length, total = show_letter(word(7, "hi there")).rsplit("|", 2)
        for other in (ahead.replace("hi", "ih"), ahead.replace("7", "8"), ahead.replace("from=b", "from=a")):
            self.why(f"{other}|{length}|{total}", "sum")
        for other in (ahead + "s", ahead[:-1], ahead.replace("no", "yes")):
            self.why(f"{other}|{length}|{total}", "length")

    def test_signs_that_are_not_in_signs_count_nothing_but_have_a_place(self):
        for ahead in ("A", "from=a|number=7|again=no|word=HI", "from=A|number=7|again=no|word=hi", "-", "a\nb", "~!a",
                      "from=a|number=7|again=no|word=hi.", "from=a|number=-7|again=no|word=hi"):
            self.why(with_both(ahead), "form")
            text = f"{ahead}|length={len(ahead)}"
            self.why(f"{text}|sum={sum_of(text) + 1}", "sum")
        # Two texts that differ only in signs that count nothing have one sum.
        self.assertEqual(with_both("xAy").rsplit("=", 1)[1], with_both("x-y").rsplit("=", 1)[1])

    def test_a_part_left_out_twice_or_exchanged(self):
        for letter, ahead, _ in WRITTEN:
            parts = ahead.split("|")
            for at in range(4):
                self.why(with_both("|".join(parts[:at] + parts[at + 1:])), "form")
                self.why(with_both("|".join(parts[:at] + [parts[at]] + parts[at:])), "form")
                self.why(with_both("|".join(parts[:at] + [""] + parts[at:])), "form")
                for other in range(at):
                    changed = list(parts)
                    changed[at], changed[other] = parts[other], parts[at]
                    self.why(with_both("|".join(changed)), "form")
            self.why(with_both(ahead + "|"), "form")
            self.why(with_both("|" + ahead), "form")
            self.why(with_both(ahead + "|length=5|sum=5"), "form")
        self.why(with_both(""), "form")
        self.why(with_both("|||"), "form")
        self.why(with_both("a|7|no|word=hi"), "form")

    def test_names_of_parts(self):
        for ahead in ("From=a|number=7|again=no|word=hi", "from=a|numbers=7|again=no|word=hi", "a=a|number=7|again=no|word=hi",
                      "from=a|number=7|gain=no|word=hi", "from=a|number=7|again=no|words=hi", "froma|number=7|again=no|word=hi",
                      "from=a|number7|again=no|word=hi", "from=a|number=7|againno|word=hi", "from=a|number=7|again=no|wordhi",
                      "from=a|number=7|again=no|=hi", "from=a|number=0|again=no|bye", "from=a|number=0|again=no|",
                      "from=a|number=0|again=no|tell=hi", " from=a|number=7|again=no|word=hi",
                      "from=a |number=7|again=no|word=hi", "from==a|number=7|again=no|word=hi",
                      "from=a|number==7|again=no|word=hi", "from=a|number=7|again==no|word=hi"):
            self.why(with_both(ahead), "form")

    def test_sides_and_truths(self):
        for side in ("", "c", "A", "ab", " a", "a ", "a,b", "0", "yes"):
            self.why(with_both(f"from={side}|number=7|again=no|word=hi"), "form")
        for truth in ("", "No", "YES", "true", "0", "1", " no", "no ", "no,no", "yesno"):
            self.why(with_both(f"from=a|number=7|again={truth}|word=hi"), "form")
            self.why(with_both(f"from=a|number=0|again=no|hello=0,0,1,0,{truth},no"), "form")
            self.why(with_both(f"from=a|number=0|again=no|hello=0,0,1,0,no,{truth}"), "form")

    def test_numbers_that_are_not_so_written(self):
        sixty = "1" + "0" * 59
        for number in ("", "07", "00", "007", "-7", "+7", " 7", "7 ", "7.0", "x", "7x", "1_0", "yes", "no", "None", "10000",
                       sixty, "9" * 4400, "0" * 60, "0x7", "7,7"):
            self.why(with_both(f"from=a|number={number}|again=no|word=hi"), "form")
            self.why(with_both(f"from=a|number=7|again=no|beat={number}"), "form")
            self.why(with_both(f"from=a|number=7|again=no|ask=1,{number}"), "form")
            self.why(with_both(f"from=a|number=7|again=no|ask={number},0"), "form")
            self.why(with_both(f"from=a|number=0|again=no|hello={number},0,1,0,no,no"), "form")
        for number in ("", "07", "10001", sixty, "yes"):
            self.why(with_both(f"from=a|number=7|again=yes|fill={number}"), "form")

    def test_bodies_that_are_none(self):
        for behind in ("word=", "word=Hi", "word=hi,there", "word=hi=there", "word=" + "a" * 21, "word=hi_there", "beat",
                       "beat=", "beat=1,1", "beat=,1", "beat=1,", "test=0", "test=", "ask=3", "ask=0,0", "ask=4,3", "ask=3,0,0",
                       "ask=3,", "ask=,3", "ask=3, 4", "ask=3;4", "ask=", "bye=", "bye=0", "bye=no", "bye", "tell=hi", "own=",
                       "=", "", "beat=hi", "hello=0,0,1,0,no,no"):
            self.why(with_both(f"from=a|number=7|again=no|{behind}"), "form")
        for behind in ("bye=0", "bye=no", "bye", "bye=,", "hello=", "hello", "hello=0,0,1,0,no", "hello=0,0,1,0,no,no,no",
                       "hello=0,0,0,0,no,no", "hello=1000,0,1,0,no,no", "hello=0,10000,1,0,no,no", "hello=0,0,10001,0,no,no",
                       "hello=0,0,1,10001,no,no", "hello=0,0,1,0,0,0", "hello=no,0,1,0,no,no", "word=hi", "beat=0"):
            self.why(with_both(f"from=a|number=0|again=no|{behind}"), "form")
        for behind in ("fill=7", "fill=6", "fill=10001", "fill=", "fill=8,9", "beat=0", "test=1", "ask=1,0"):
            self.why(with_both(f"from=a|number=7|again=yes|{behind}"), "form")
        self.why(with_both("from=a|number=7|again=no|fill=8"), "form")
        self.why(with_both("from=a|number=0|again=yes|bye="), "form")

    def test_length_comes_ahead_of_sum_and_both_ahead_of_the_rest(self):
        bad = "from=c|number=x"
        self.why(f"{bad}|length={len(bad) + 1}|sum=1000", "length")
        self.why(f"{bad}|length={len(bad)}|sum=1000", "sum")
        self.why(with_both(bad), "form")

    def test_long_texts(self):
        for ahead in ("a" * 4900, "from=a|number=" + "7" * 4800 + "|again=no|word=hi", "|" * 4900, "a\n" * 2400):
            self.why(with_both(ahead), "form")


if __name__ == "__main__":
    unittest.main()
