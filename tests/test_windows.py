"""Points 13 and 14: what a windowed side keeps, takes in turn and asks for, and what each side tells."""

import unittest

from gapfill.bounds import WIDE, WINDOWED
from gapfill.windows import next_kept, reaching_beyond, runs_without
from tests.benches import SideCase, made, on, stand, waiting
from tests.things import fill, hello, own, word


def asks(*runs, first=1, side="a"):
    """The asks for these runs, numbered from the first on."""
    return tuple([own(number, "ask", *run, side=side) for number, run in enumerate(runs, start=first)])


def windowed(*entries, wide=3, **rule):
    return on(*entries, make=WINDOWED, wide=wide, **rule)


class Kept(SideCase):
    def keeps(self, side, *kept):
        self.same(side.kept(), kept)

    def test_bounds_just_met_and_just_not(self):
        for wide in (1, 2, 3, 8, 99):
            for awaited in (1, 2, 40):
                entries = (("got", awaited),) if awaited > 1 else ()
                for number in range(awaited + 1, awaited + wide):
                    side = windowed(*entries, wide=wide)
                    side.take(word(number, "hi"))
                    self.keeps(side, number)
                for number in (awaited + wide, awaited + wide + 1, awaited + 500):
                    side = windowed(*entries, wide=wide)
                    side.take(word(number, "hi"))
                    self.keeps(side)

    def test_the_width_where_none_is_named(self):
        side = on(make=WINDOWED)
        side.take(word(WIDE, "hi"))
        side.take(word(WIDE + 1, "hi"))
        self.keeps(side, 8)

    def test_the_window_goes_on_with_the_awaited_number(self):
        side = windowed()
        side.take(word(5, "hi"))
        self.keeps(side)
        side.take(fill(1, 3))
        side.take(word(5, "hi"))
        side.take(word(6, "hi"))
        self.keeps(side, 5)

    def test_a_fill_may_reach_further_than_the_window(self):
        side = windowed()
        side.take(fill(3, 900))
        side.take(fill(4, 900))
        self.keeps(side, 3)

    def test_letters_of_all_kinds_rising(self):
        side = windowed(wide=99)
        for letter in (own(9, "beat", 0), word(5, "hi"), fill(7, 9), own(12, "test", 5), own(3, "ask", 1, 0), word(80, "ho")):
            side.take(letter)
        self.keeps(side, 3, 5, 7, 9, 12, 80)

    def test_low_and_taken_ones_are_not_kept(self):
        side = windowed()
        for letter in (word(1, "hi"), word(1, "hi"), own(2, "beat", 0), fill(1, 3)):
            side.take(letter)
            self.keeps(side)

    def test_a_plain_one_keeps_none(self):
        for wide in (1, 99):
            side = on(wide=wide)
            for number in (2, 3, 9):
                side.take(word(number, "hi"))
                self.keeps(side)
            self.takes(side, word(1, "one"), "word")
            self.same(side.heard(), ((0, 1, "one", False),))

    def test_of_each_number_the_first_that_came(self):
        side = windowed(wide=9)
        side.take(word(2, "first"))
        side.take(word(2, "second"))
        side.take(fill(2, 9))
        side.take(fill(3, 4))
        side.take(word(3, "third"))
        self.keeps(side, 2, 3)
        side.take(word(1, "one"))
        self.same(side.heard(), ((0, 1, "one", False), (0, 2, "first", False)))
        self.same(side.store().next_in(), 4)

    def test_none_where_it_opens(self):
        for end in ("fall", "close"):
            side = windowed()
            side.take(word(2, "hi"))
            getattr(side, end)()
            self.keeps(side, 2)
            side.greet()
            self.keeps(side)
            side.take(hello(reply=True))
            side.take(word(1, "one"))
            self.same(side.heard(), ((0, 1, "one", False),))

    def test_none_where_it_waits_or_is_off_or_of_itself(self):
        for side in (waiting(make=WINDOWED), made(make=WINDOWED)):
            side.take(word(2, "hi"))
            self.keeps(side)
        side = windowed()
        side.take(word(2, "hi", side="a"))
        self.keeps(side)


class TakenInTurn(SideCase):
    def after(self, kept, letter, *letters, entries=(), wide=20):
        """A side that took all of the kept ones, then the letter, which tells these letters."""
        side = windowed(*entries, wide=wide)
        for one in kept:
            self.assertEqual(side.take(one)[0], "gap")
        before = len(side.store().entries())
        word_told = "word" if letter[3][0] == "word" else "own"
        self.takes(side, letter, word_told, *letters)
        return side, side.store().entries()[before:]

    def test_words_and_own_letters(self):
        side, entries = self.after((word(4, "four"), own(3, "beat", 0), word(2, "two"), word(6, "six")), word(1, "one"))
        self.same(entries, (("heard", "one", False), ("heard", "two", False), ("got", 4), ("heard", "four", False)))
        self.same(side.kept(), (6,))
        self.same(side.heard(), ((0, 1, "one", False), (0, 2, "two", False), (0, 4, "four", False)))
        self.same(side.log()[-5:], ("gap",) * 4 + ("word",))

    def test_behind_a_fill(self):
        side, entries = self.after((word(5, "five"), word(4, "four")), fill(1, 4))
        self.same(entries, (("got", 4), ("heard", "four", False), ("heard", "five", False)))
        self.same(side.kept(), ())

    def test_behind_an_own_letter(self):
        side, entries = self.after((word(2, "two"),), own(1, "beat", 0))
        self.same(entries, (("got", 2), ("heard", "two", False)))

    def test_in_doubt_as_any_other(self):
        side, entries = self.after((word(3, "three"), word(2, "two", again=True)), word(1, "one", again=True),
                                   entries=(("lost",),))
        self.same(entries, (("heard", "one", True), ("heard", "two", True), ("heard", "three", False)))
        side, entries = self.after((word(2, "two", again=True),), word(1, "one", again=True))
        self.same(entries, (("heard", "one", False), ("heard", "two", False)))

    def test_a_kept_test_is_answered_in_its_turn(self):
        # Its asks of the first gap had the numbers 1 and 2.
        side, _ = self.after((own(3, "test", 7), own(2, "test", 9)), word(1, "one"),
                             own(3, "beat", 9, side="a"), own(4, "beat", 7, side="a"))
        self.same(side.idle(), 0)

    def test_a_test_is_answered_ahead_of_kept_ones(self):
        self.after((own(2, "test", 9),), own(1, "test", 5), own(3, "beat", 5, side="a"), own(4, "beat", 9, side="a"))

    def test_a_kept_ask_isn_t_answered_again(self):
        side = windowed(("tell", "hi"), wide=20)
        self.takes(side, own(2, "ask", 1, 0), "gap", word(1, "hi", again=True, side="a"), *asks((1, 1), (3, 0), first=2))
        self.takes(side, own(2, "ask", 1, 1), "gap", word(1, "hi", again=True, side="a"))
        self.takes(side, word(1, "one"), "word")
        self.same((side.store().next_in(), side.kept()), (3, ()))

    def test_an_ask_at_its_turn_is_answered_ahead_of_kept_ones(self):
        side = windowed(("tell", "hi"), wide=20)
        side.take(own(2, "test", 9))
        self.takes(side, own(1, "ask", 1, 2), "own", word(1, "hi", again=True, side="a"), fill(2, 3, side="a"),
                   own(4, "beat", 9, side="a"))

    def test_kept_fills_from_below_to_beyond(self):
        side, entries = self.after((fill(2, 9), word(9, "nine")), fill(1, 4))
        self.same(entries, (("got", 4), ("got", 9), ("heard", "nine", False)))

    def test_of_such_fills_the_one_of_the_least_number(self):
        side, entries = self.after((fill(3, 6), fill(2, 8)), fill(1, 5))
        self.same(entries, (("got", 5), ("got", 8)))
        side, entries = self.after((fill(3, 9), fill(2, 6)), fill(1, 5))
        self.same(entries, (("got", 5), ("got", 6), ("got", 9)))

    def test_one_that_begins_there_comes_ahead_of_fills_from_below(self):
        side, entries = self.after((fill(2, 9), word(5, "five")), fill(1, 5))
        self.same(entries, (("got", 5), ("heard", "five", False), ("got", 9)))
        side, entries = self.after((fill(2, 9), fill(5, 7)), fill(1, 5))
        self.same(entries, (("got", 5), ("got", 7), ("got", 9)))

    def test_a_fill_to_the_awaited_number_is_not_taken(self):
        side, entries = self.after((fill(2, 5), fill(3, 4)), fill(1, 5))
        self.same(entries, (("got", 5),))
        self.same(side.kept(), ())

    def test_those_that_reach_no_further_go(self):
        side, entries = self.after((word(2, "two"), word(3, "three"), own(4, "test", 3), fill(5, 6), fill(7, 8), word(8, "x")),
                                   fill(1, 7))
        self.same(entries, (("got", 7), ("got", 8), ("heard", "x", False)))
        self.same(side.kept(), ())
        side, entries = self.after((word(2, "two"), word(6, "six"), fill(3, 5)), fill(1, 5))
        self.same((entries, side.kept()), ((("got", 5),), (6,)))

    def test_one_that_is_gone_is_kept_anew(self):
        side = windowed(wide=20)
        side.take(word(3, "three"))
        side.take(fill(1, 3))
        self.same(side.heard(), ((0, 3, "three", False),))
        self.takes(side, word(3, "three"), "low")
        self.same(side.kept(), ())


class Asked(SideCase):
    def test_runs_that_no_kept_letter_has(self):
        side = windowed(wide=9)
        self.takes(side, word(3, "hi"), "gap", *asks((1, 2), (4, 0)))
        self.takes(side, word(5, "hi"), "gap")
        self.same(side.beat(), asks((1, 2), (4, 4), (6, 0), first=3))
        side.take(word(2, "hi"))
        self.same(side.beat(), asks((1, 1), (4, 4), (6, 0), first=6))

    def test_a_fill_has_the_numbers_to_its_reach(self):
        side = windowed(wide=9)
        self.takes(side, fill(3, 6), "gap", *asks((1, 2), (6, 0)))
        side.take(fill(8, 20))
        self.same(side.beat(), asks((1, 2), (6, 7), (20, 0), first=3))

    def test_fills_over_one_another(self):
        side = windowed(wide=9)
        side.take(fill(2, 9))
        side.take(fill(4, 6))
        side.take(word(5, "hi"))
        self.same(side.beat(), asks((1, 1), (9, 0), first=3))

    def test_beyond_the_window(self):
        side = windowed()
        self.takes(side, word(4, "hi"), "gap", *asks((1, 4), (5, 0)))
        side.take(word(900, "hi"))
        side.take(word(2, "hi"))
        self.same(side.beat(), asks((1, 1), (3, 900), (901, 0), first=3))

    def test_what_a_hello_told(self):
        side = windowed(top=7)
        self.same(side.beat(), asks((1, 7), (8, 0)))
        self.takes(side, word(3, "hi"), "gap")
        self.same(side.beat(), asks((1, 2), (4, 7), (8, 0), first=3))
        self.takes(side, hello(0, 12, 1, reply=True), "hello")
        self.same(side.beat(), asks((1, 2), (4, 12), (13, 0), first=6))

    def test_one_number_and_none(self):
        side = windowed(top=1)
        self.same(side.beat(), asks((1, 1), (2, 0)))
        side = windowed(top=0)
        self.same(side.beat(), ())
        side = windowed(("got", 8), top=7)
        self.same(side.beat(), ())
        side = windowed(("got", 8), top=8)
        self.same(side.beat(), asks((8, 8), (9, 0)))

    def test_once_till_the_next_beat(self):
        side = windowed(wide=9)
        self.takes(side, word(3, "hi"), "gap", *asks((1, 2), (4, 0)))
        for number in (5, 900, 2, 3):
            self.takes(side, word(number, "hi"), "gap")

    def test_each_is_an_own_letter(self):
        side = windowed(("own",), wide=9, name="a")
        side.beat()
        self.takes(side, word(3, "hi"), "gap", *asks((1, 2), (4, 0), first=2))
        self.same((side.store().entries(), side.idle()), ((("own",),) * 3, 0))

    def test_an_ask_is_answered_and_kept_ahead_of_its_own_asks(self):
        side = windowed(("own",), wide=9)
        self.takes(side, own(4, "ask", 1, 0), "gap", fill(1, 2, side="a"), *asks((1, 3), (5, 0), first=2))
        self.same(side.kept(), (4,))

    def test_a_plain_one_asks_for_all(self):
        side = on()
        side.take(word(3, "hi"))
        side.take(word(5, "hi"))
        self.same(side.beat(), asks((1, 0), first=2))


class Rows(unittest.TestCase):
    """The questions that a side puts to its window."""

    KEPT = {3: word(3, "x"), 5: fill(5, 9), 6: fill(6, 12), 7: own(7, "beat", 0)}

    def test_next_kept(self):
        for awaited, number in ((1, None), (2, None), (3, 3), (4, None), (5, 5), (6, 6), (7, 7), (8, 5), (9, 6), (11, 6),
                                (12, None), (13, None)):
            self.assertEqual(next_kept(self.KEPT, awaited), number)
        self.assertIsNone(next_kept({}, 1))

    def test_reaching_beyond(self):
        for awaited, kept in ((1, (3, 5, 6, 7)), (3, (3, 5, 6, 7)), (4, (5, 6, 7)), (7, (5, 6, 7)), (8, (5, 6)), (9, (6,)),
                              (11, (6,)), (12, ())):
            self.assertEqual(tuple(reaching_beyond(self.KEPT, awaited)), kept)

    def test_runs_without(self):
        for awaited, seen, runs in ((1, 11, [(1, 2), (4, 4)]), (2, 20, [(2, 2), (4, 4), (12, 20)]), (1, 12, [(1, 2), (4, 4), (12, 12)])):
            self.assertEqual(runs_without(self.KEPT, awaited, seen), runs)
        self.assertEqual(runs_without({}, 4, 4), [(4, 4)])
        self.assertEqual(runs_without({}, 4, 9000), [(4, 9000)])
        self.assertEqual(runs_without({}, 4, 3), [])


class Told(SideCase):
    def test_its_store_itself(self):
        side = on(("tell", "one"))
        store = side.store()
        self.assertIs(side.store(), store)
        side.fall()
        store.put_all((("tell", "two"), ("got", 5), ("own",)))
        store.cut(1)
        store.put(("own",))
        self.same(side.greet(), (hello(0, 2, 5, 0, side="a"),))
        self.takes(side, hello(reply=True), "hello", word(3, "two", again=True, side="a"))

    def test_what_was_cut_while_it_was_off_is_heard_again_in_doubt(self):
        side = on()
        side.take(word(1, "one"))
        side.take(word(2, "two"))
        side.close()
        side.store().cut(1)
        side.greet()
        side.take(hello(0, 2, 1, reply=True))
        self.same(side.beat(), asks((2, 0)))
        self.takes(side, word(2, "two", again=True), "word")
        self.same(side.heard(), ((0, 1, "one", False), (0, 2, "two", False), (0, 2, "two", True)))
        self.same(side.store().heard(), ((0, 1, "one", False), (0, 2, "two", True)))

    def test_heard_since_it_was_made(self):
        side = on(("heard", "hey", False), ("round", 2), ("heard", "ho", True))
        self.same(side.heard(), ())
        side.take(word(2, "hi"))
        self.same(side.heard(), ((1, 2, "hi", False),))
        side.fall()
        side.greet()
        side.take(hello(2, 0, 1, 1))
        side.take(word(1, "hi", again=True))
        self.same(side.heard(), ((1, 2, "hi", False), (2, 1, "hi", False)))
        self.same(side.store().heard(), ((0, 1, "hey", False), (1, 1, "ho", True), (1, 2, "hi", False), (2, 1, "hi", False)))

    def test_the_log_has_all_words(self):
        side = made(make=WINDOWED)
        side.take(word(1, "hi"))
        side.greet()
        for letter in (word(1, "hi"), word(1, "hi", side="a"), hello(5), hello(), hello(reply=True), word(2, "two"), word(1, "one"),
                       word(1, "one"), own(3, "beat", 0), ("b", 0, False, ("bye",)), hello()):
            side.take(letter)
        self.same(side.log(), ("off", "early", "side", "apart", "hello", "hello", "gap", "word", "low", "own", "bye", "off"))

    def test_what_was_told_stays(self):
        side = windowed(("tell", "hi"), wide=9)
        side.take(word(3, "three"))
        told = stand(side)
        shown = repr(told)
        side.take(word(1, "one"))
        side.take(word(2, "two"))
        side.tell("more")
        side.beat()
        side.close()
        self.assertEqual(repr(told), shown)

    def test_rows_are_tuples(self):
        side = waiting(("tell", "one"), ("word",), make=WINDOWED)
        side.take(hello(1, 0, 1, 1))
        side.take(word(1, "x"))
        side.take(word(3, "x"))
        side.fall()
        side.greet()
        side.take(hello(1, 0, 50, 1))
        for name in ("heard", "unsaid", "missing", "trace"):
            rows = getattr(side, name)()
            self.assertIs(type(rows), tuple)
            self.assertTrue(rows, name)
            for row in rows:
                self.assertIs(type(row), tuple)
        self.assertIs(type(side.log()), tuple)
        self.assertIs(type(side.kept()), tuple)

    def test_letters_handed_in_stay(self):
        letter = fill(3, 9)
        side = windowed(wide=9)
        side.take(letter)
        side.take(fill(1, 4))
        self.same(letter, fill(3, 9))


if __name__ == "__main__":
    unittest.main()
