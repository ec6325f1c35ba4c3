"""Points 15, 16 and 22: beats, letters taken as texts, and the trace that a side keeps."""

import unittest

from gapfill.bounds import PAUSE, WINDOWED
from gapfill.errors import Busy, NoLetter, NoText, NoTruth
from gapfill.lettertexts import show_letter
from tests.benches import SideCase, inside, made, on, stand, waiting
from tests.things import bye, fill, hello, own, refused, strangers, word


class BeatCase(SideCase):
    def beats(self, side, *letters, **parts):
        """It tells these letters, and stands as before but for these parts."""
        before = stand(side)
        self.same(side.beat(), letters)
        self.changed(side, before, **parts)


class OffAndWaiting(BeatCase):
    def test_off_nothing(self):
        for side in (made(), made(make=WINDOWED)):
            for _ in range(3 * PAUSE + 1):
                self.beats(side)
        side = on(top=9)
        side.fall()
        for _ in range(3 * PAUSE + 1):
            self.beats(side)

    def test_waiting_it_tells_its_hello_again(self):
        for reset in (True, False):
            side = waiting(("own",), ("got", 4), ("round", 4), reset=reset)
            for quiet in range(1, 3 * PAUSE):
                self.beats(side, hello(1, 0, 1, 4, reset=reset, side="a"), quiet=quiet)
            self.beats(side, state="off", quiet=3 * PAUSE)
            self.beats(side)

    def test_the_hello_has_the_numbers_of_its_store(self):
        side = waiting()
        side.store().put_all((("own",), ("got", 7)))
        self.beats(side, hello(0, 1, 7, 0, side="a"), quiet=1)

    def test_waiting_three_times_each_pause(self):
        for pause in (3, 4, 60):
            side = waiting(pause=pause)
            for _ in range(3 * pause - 1):
                side.beat()
            self.same((side.state(), side.quiet()), ("waits", 3 * pause - 1))
            self.same(side.beat(), ())
            self.same((side.state(), side.quiet()), ("off", 3 * pause))

    def test_a_letter_ends_its_quiet(self):
        for letter, word_told in ((hello(7), "apart"), (word(5, "hi"), "early")):
            side = waiting()
            for _ in range(3 * PAUSE - 1):
                side.beat()
            side.take(letter)
            self.beats(side, hello(side="a"), quiet=1)
        side = waiting()
        for _ in range(3 * PAUSE - 1):
            side.beat()
        side.take(word(5, "hi", side="a"))
        side.take_text("hi")
        self.beats(side, state="off", quiet=3 * PAUSE)


class On(BeatCase):
    def test_pause_then_tests_then_off(self):
        for pause in (3, 4, 5, 60):
            for make in ("plain", "windowed"):
                self.goes_quiet(on(pause=pause, make=make), pause)

    def goes_quiet(self, side, pause):
        number = 0
        entries = ()
        for quiet in range(1, 3 * pause):
            letters, idle = (), quiet % pause
            if quiet >= 2 * pause:
                idle, letters = 0, (own(number + 1, "test", quiet, side="a"),)
            elif idle == 0:
                letters = (own(number + 1, "beat", 0, side="a"),)
            number += len(letters)
            entries = entries + (("own",),) * len(letters)
            self.beats(side, *letters, quiet=quiet, idle=idle, entries=entries)
        self.beats(side, quiet=3 * pause, state="off")
        self.same(side.idle(), 0)
        self.same(number, 1 + pause)

    def test_a_letter_of_its_own_puts_the_beat_off(self):
        side = on()
        for _ in range(PAUSE - 1):
            self.same(side.beat(), ())
        side.tell("hi")
        for idle in range(1, PAUSE):
            self.beats(side, idle=idle, quiet=PAUSE - 1 + idle)
        # The beat comes in the turn in which quiet isn't yet twice the pause.
        self.beats(side, own(2, "beat", 0, side="a"), idle=0, quiet=2 * PAUSE - 1, entries=side.store().entries() + (("own",),))

    def test_idle_and_quiet_go_by_themselves(self):
        side = on()
        for quiet in range(1, PAUSE):
            side.take(own(quiet, "beat", 0))
            self.beats(side, idle=quiet, quiet=1)
        side.take(own(PAUSE, "beat", 0))
        self.beats(side, own(1, "beat", 0, side="a"), idle=0, quiet=1, entries=side.store().entries() + (("own",),))

    def test_each_letter_that_comes_ends_its_quiet(self):
        for letter in (word(1, "hi"), word(9, "hi"), own(1, "beat", 0), fill(1, 4), hello(), hello(reply=True), hello(5),
                       hello(1)):
            side = on()
            for _ in range(7):
                side.beat()
            side.take(letter)
            self.same(side.quiet(), 0)

    def test_answers_do_not_end_its_idle(self):
        side = on(("tell", "hi"))
        side.beat()
        side.beat()
        side.take(own(1, "ask", 1, 0))
        self.same((side.idle(), side.quiet()), (2, 0))
        for letter in (hello(), word(2, "hi"), own(3, "beat", 0), fill(4, 9)):
            side.take(letter)
            self.same(side.idle(), 2)
        side.take(own(9, "test", 7))
        self.same(side.idle(), 0)

    def test_asks_end_its_idle(self):
        side = on()
        side.beat()
        side.take(word(3, "hi"))
        self.same(side.idle(), 0)

    def test_it_asks_where_the_greatest_seen_isn_t_below_the_awaited_number(self):
        side = on(("got", 5), top=5)
        self.beats(side, own(1, "ask", 5, 0, side="a"), idle=0, quiet=1, entries=(("got", 5), ("own",)))
        self.beats(side, own(2, "ask", 5, 0, side="a"), idle=0, quiet=2, entries=(("got", 5), ("own",), ("own",)))
        side.take(word(5, "hi"))
        self.beats(side, idle=1, quiet=1)
        side = on(("got", 5), top=4)
        self.beats(side, idle=1, quiet=1)
        side = on(("got", 5), top=9000)
        self.beats(side, own(1, "ask", 5, 0, side="a"), idle=0, quiet=1, entries=(("got", 5), ("own",)))

    def test_an_ask_then_a_test(self):
        side = on(top=1)
        number = 0
        for quiet in range(1, 3 * PAUSE):
            letters = [own(number + 1, "ask", 1, 0, side="a")]
            if quiet >= 2 * PAUSE:
                letters.append(own(number + 2, "test", quiet, side="a"))
            number += len(letters)
            self.beats(side, *letters, idle=0, quiet=quiet, entries=(("own",),) * number)
        self.beats(side, quiet=3 * PAUSE, state="off")

    def test_asks_of_a_windowed_one_then_a_test(self):
        side = on(top=9, make=WINDOWED, pause=3)
        side.take(word(3, "hi"))
        for _ in range(5):
            side.beat()
        first = side.store().next_out()
        self.same(side.beat(), (own(first, "ask", 1, 2, side="a"), own(first + 1, "ask", 4, 9, side="a"),
                                own(first + 2, "ask", 10, 0, side="a"), own(first + 3, "test", 6, side="a")))

    def test_off_nothing_is_asked_or_sent(self):
        side = on(top=9, pause=3)
        for _ in range(8):
            side.beat()
        before = stand(side)
        self.same(side.beat(), ())
        self.changed(side, before, quiet=9, state="off")

    def test_opening_ends_both(self):
        side = on()
        for _ in range(3):
            side.beat()
        side.close()
        self.same((side.idle(), side.quiet()), (3, 3))
        side.greet()
        self.same((side.idle(), side.quiet()), (0, 0))
        side.beat()
        self.same((side.idle(), side.quiet()), (0, 1))
        side.take(hello(reply=True))
        self.same((side.idle(), side.quiet()), (0, 0))

    def test_words_sent_as_it_comes_up(self):
        side = waiting(("tell", "hi"))
        side.beat()
        side.take(hello(reply=True))
        self.beats(side, idle=1, quiet=1)


class TakenAsTexts(SideCase):
    def test_as_take_of_what_is_read(self):
        letters = (word(5, "hi"), hello(5), hello(), word(1, "hi"), own(2, "test", 9), word(7, "ho"), fill(3, 6), word(1, "hi"),
                   word(1, "hi", side="a"), own(6, "ask", 1, 0), bye(), hello())
        one, other = waiting(make=WINDOWED), waiting(make=WINDOWED)
        for letter in letters:
            self.same(one.take_text(show_letter(letter)), other.take(letter))
            self.same(inside(one), inside(other))
            one.beat()
            other.beat()
        self.same(one.take_text(text=show_letter(hello())), ("off", ()))
        self.same(one.log()[:3], ("early", "apart", "hello"))

    def test_what_can_t_be_read(self):
        text = show_letter(word(1, "hi"))
        ahead, length, total = text.rsplit("|", 2)
        unread = [(thing, "form") for thing in strangers()] + [
            (text + "|", "form"), (word(1, "hi"), "form"), (text.encode(), "form"), ("", "form"),
            (f"{ahead}|length=34|{total}", "length"), (f"{ahead}x|{length}|{total}", "length"),
            (f"{ahead}|{length}|sum=0", "sum"), (text.replace("hi", "ih"), "sum"),
        ]
        for side in (made(), waiting(), on(), on(make=WINDOWED)):
            side.beat()
            for thing, why in unread:
                before, log, trace = inside(side), side.log(), side.trace()
                self.same(side.take_text(thing), (why, ()))
                self.same(side.log(), log + (why,))
                self.same(side.trace(), trace)
                after = inside(side)
                self.same([name for name in after if after[name] != before[name]], [self.name_of_log(side)])

    def name_of_log(self, side):
        """What the log is called inside: the one thing there with these words."""
        return [name for name, value in vars(side).items() if tuple(value if isinstance(value, list) else ()) == side.log()][0]

    def test_why_of_each_kind_in_turn(self):
        side = on()
        text = show_letter(word(1, "hi"))
        self.same(side.take_text(text[:-1] + "x"), ("form", ()))
        self.same(side.take_text(text.replace("hi", "hey")), ("length", ()))
        self.same(side.take_text(text.replace("hi", "ha")), ("sum", ()))
        self.same(side.take_text(text), ("word", ()))
        self.same(side.log(), ("hello", "form", "length", "sum", "word"))
        self.same(side.heard(), ((0, 1, "hi", False),))

    def test_by_name(self):
        side = on()
        self.same(side.take_text(text="hi"), ("form", ()))
        self.same(side.take_text(text=show_letter(word(1, "hi"))), ("word", ()))


class Trace(SideCase):
    def test_all_deeds_with_the_letters_that_came_of_them(self):
        side = made(make=WINDOWED)
        rows = []

        def done(deed, told):
            rows.append((deed, told))
            self.same(side.trace(), tuple(rows))

        done(("beat",), side.beat())
        done(("fall",), side.fall())
        done(("close",), side.close())
        done(("tell", "one"), side.tell("one"))
        done(("take", word(3, "hi")), side.take(word(3, "hi"))[1])
        done(("open", True), side.greet(reset=True))
        done(("beat",), side.beat())
        done(("take", word(3, "hi")), side.take_text(show_letter(word(3, "hi")))[1])
        for letter in (hello(9), hello(), hello(reset=True, reply=True), word(3, "hi", side="a"), own(1, "test", 5), own(4, "ask", 1, 0),
                       word(2, "two"), word(2, "two"), fill(3, 9)):
            done(("take", letter), side.take(letter)[1])
        done(("tell", "two"), side.tell("two"))
        for _ in range(3):
            done(("beat",), side.beat())
        done(("fall",), side.fall())
        done(("open", False), side.greet())
        done(("close",), side.close())
        done(("open", False), side.greet(reset=False))
        done(("take", bye()), side.take(bye())[1])
        told = [told for _, told in side.trace()]
        self.assertIn((bye("a"),), told)
        self.assertIn((hello(reset=True, side="a"),), told)
        self.assertIn((hello(reset=True, reply=True, side="a"), word(1, "one", side="a")), told)

    def test_rows_by_their_words(self):
        side = made()
        side.greet()
        side.take(hello())
        side.tell("hi")
        side.close()
        self.same(side.trace(), (
            (("open", False), (hello(side="a"),)),
            (("take", hello()), (hello(reply=True, side="a"),)),
            (("tell", "hi"), (word(1, "hi", side="a"),)),
            (("close",), (bye("a"),)),
        ))

    def test_what_was_refused_or_not_read_is_not_in_it(self):
        side = on()
        trace = side.trace()
        refused(self, NoText, side.tell, "")
        refused(self, NoLetter, side.take, "hi")
        refused(self, NoTruth, side.greet, reset=1)
        refused(self, Busy, side.greet)
        side.take_text("hi")
        self.same(side.trace(), trace)

    def test_it_begins_where_it_is_made(self):
        self.same(made(("tell", "hi"), ("own",)).trace(), ())


if __name__ == "__main__":
    unittest.main()
