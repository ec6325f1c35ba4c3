"""Points 9 to 12: sides, what they are told, how they open and fall, and what they take."""

from gapfill.bounds import PLAIN, WINDOWED
from gapfill.errors import Busy, NoLetter, NoMake, NoPause, NoSide, NoStore, NoText, NoTruth, NoWide
from gapfill.sides import Side
from gapfill.stores import Store
from tests.benches import SideCase, inside, made, on, stand, waiting
from tests.things import bye, fill, hello, own, put_otherwise, refused, strangers, word

# A word has number 2, behind an own letter; 3 is next, 5 is awaited.
SOME = (
    ("tell", "one"), ("own",), ("word",), ("heard", "hey", False), ("got", 4), ("heard", "ho", False),
)


def each_state(*entries, **rule):
    """A side that is off, one that waits, one that is on."""
    return made(*entries, **rule), waiting(*entries, **rule), on(*entries, **rule)


class Made(SideCase):
    def test_it_is_off_over_its_store(self):
        store = Store()
        store.put_all(SOME)
        for side in (Side(store, "a"), Side(store=store, name="b", make=WINDOWED, pause=60, wide=99),
                     Side(store, "b", make=PLAIN, pause=3, wide=1)):
            self.same(side.state(), "off")
            self.assertIs(side.store(), store)
            self.same((side.seen(), side.idle(), side.quiet()), (0, 0, 0))
            for name in ("kept", "heard", "unsaid", "missing", "log", "trace"):
                self.same(getattr(side, name)(), ())
        self.same(store.entries(), SOME)

    def test_no_store(self):
        for thing in strangers() + (SOME, Store):
            refused(self, NoStore, Side, thing, "a")
            refused(self, NoStore, Side, store=thing, name=None, make=None, pause=None, wide=None)

    def test_no_side(self):
        for thing in strangers() + ("c", "ab", True, 0):
            refused(self, NoSide, Side, Store(), thing)
            refused(self, NoSide, Side, wide=None, pause=None, make=None, name=thing, store=Store())

    def test_no_make(self):
        for thing in strangers() + ("Plain", "plain ", "window", 0, True):
            refused(self, NoMake, Side, Store(), "a", make=thing)
            refused(self, NoMake, Side, Store(), "a", wide=None, pause=None, make=thing)

    def test_no_pause(self):
        for thing in [thing for thing in strangers()] + [2, 61, 0, 1, -5, True, False, "5", None, (5,)]:
            refused(self, NoPause, Side, Store(), "a", pause=thing)
            refused(self, NoPause, Side, Store(), "a", wide=0, pause=thing, make=WINDOWED)
        for pause in (3, 4, 59, 60):
            Side(Store(), "a", pause=pause)

    def test_no_wide(self):
        for thing in [thing for thing in strangers()] + [0, 100, -1, True, False, "8", None, (8,)]:
            refused(self, NoWide, Side, Store(), "a", wide=thing)
            refused(self, NoWide, Side, Store(), "a", wide=thing, make=WINDOWED)
        for wide in (1, 2, 98, 99):
            Side(Store(), "a", wide=wide)

    def test_what_is_refused_changes_nothing(self):
        store = Store()
        store.put_all(SOME)
        refused(self, NoSide, Side, store, "c")
        refused(self, NoWide, Side, store, "a", wide=0)
        self.same(store.entries(), SOME)

    def test_names_behind_the_star(self):
        for handed in ((Store(), "a", PLAIN), (Store(), "a", PLAIN, 5, 8)):
            self.assertRaises(TypeError, Side, *handed)

    def test_no_two_sides_are_alike(self):
        side = made(*SOME)
        self.assertIs(side == side, True)
        for other in [made(*SOME), Side(side.store(), "a"), None, "a"]:
            self.assertIs(side == other, False)
        self.assertIs(bool(side), True)

    def test_methods_stand_in_the_class_itself(self):
        for name in ("tell", "greet", "fall", "close", "take", "kept", "state", "store", "seen", "idle", "quiet", "heard",
                     "unsaid", "missing", "log", "beat", "take_text", "trace"):
            self.assertIn(name, vars(Side))
        self.same(Side.__module__, "gapfill.sides")


class Tell(SideCase):
    def test_off_and_waiting_it_waits_in_the_store(self):
        for side in each_state(*SOME)[:2]:
            before = stand(side)
            self.same(side.tell("hi"), ())
            self.same(side.tell(text="ho 2"), ())
            self.changed(side, before, entries=SOME + (("tell", "hi"), ("tell", "ho 2")))
            self.same(side.store().waiting(), ("hi", "ho 2"))

    def test_on_it_is_sent(self):
        side = on(*SOME)
        before = stand(side)
        self.same(side.tell("hi"), (word(3, "hi", side="a"),))
        self.same(side.tell(text="ho 2"), (word(4, "ho 2", side="a"),))
        self.changed(side, before, entries=SOME + (("tell", "hi"), ("word",), ("tell", "ho 2"), ("word",)))
        self.same(side.store().words(), ((2, "one"), (3, "hi"), (4, "ho 2")))

    def test_sent_it_ends_its_idle(self):
        side = on()
        side.beat()
        side.beat()
        self.same(side.idle(), 2)
        side.tell("hi")
        self.same((side.idle(), side.quiet()), (0, 2))

    def test_again_where_the_store_is_doubtful(self):
        side = on(*SOME, ("lost",))
        self.same(side.tell("hi"), (word(3, "hi", again=True, side="a"),))
        side = on(*SOME, ("lost",), ("round", 5))
        self.same(side.tell("hi"), (word(1, "hi", side="a"),))

    def test_from_either_side(self):
        side = made(name="b")
        side.greet()
        side.take(hello(reply=True, side="a"))
        self.same(side.tell("hi"), (word(1, "hi", side="b"),))

    def test_no_text(self):
        for side in each_state(*SOME):
            before = inside(side)
            for thing in strangers() + ("Hi", "a" * 21, "hi!", "a,b", 7, True, b"hi"):
                self.same(refused(self, NoText, side.tell, thing).why, "form")
                self.same(refused(self, NoText, side.tell, text=thing).why, "form")
            self.same(inside(side), before)


class Greet(SideCase):
    def test_it_waits_and_tells_a_hello(self):
        side = made(*SOME)
        before = stand(side)
        self.same(side.greet(), (hello(0, 2, 5, 0, side="a"),))
        self.changed(side, before, state="waits")

    def test_the_numbers_of_the_hello(self):
        for entries, told in (
            ((), (0, 0, 1, 0)),
            ((("skip", 10), ("got", 10000)), (0, 9, 10000, 0)),
            ((("got", 7), ("round", 7), ("own",), ("got", 3)), (1, 1, 3, 7)),
            ((("round", 1), ("got", 9), ("round", 9)), (2, 0, 1, 9)),
            ((("tell", "hi"), ("lost",)), (0, 0, 1, 0)),
        ):
            self.same(made(*entries, name="b").greet(), (hello(*told),))

    def test_reset(self):
        for reset in (True, False):
            side = made(*SOME)
            self.same(side.greet(reset=reset), (hello(0, 2, 5, 0, reset=reset, side="a"),))
            self.same(side.beat(), (hello(0, 2, 5, 0, reset=reset, side="a"),))
            self.takes(side, hello(), "hello", hello(0, 2, 5, 0, reset=reset, reply=True, side="a"))
            self.takes(side, hello(), "hello", hello(0, 2, 5, 0, reset=reset, reply=True, side="a"))
            side.fall()
            self.same(side.greet(), (hello(0, 2, 5, 0, side="a"),))

    def test_no_truth(self):
        for side in each_state(*SOME):
            before = inside(side)
            for thing in strangers() + (0, 1, "yes", None):
                refused(self, NoTruth, side.greet, reset=thing)
            self.same(inside(side), before)
        self.assertRaises(TypeError, made().greet, True)

    def test_busy(self):
        for side in each_state(*SOME)[1:]:
            before = inside(side)
            refused(self, Busy, side.greet)
            refused(self, Busy, side.greet, reset=True)
            self.same(inside(side), before)

    def test_an_opening_ends_what_was(self):
        side = on(make=WINDOWED, top=5)
        side.take(word(3, "hi"))
        side.beat()
        side.beat()
        side.fall()
        self.same((side.seen(), side.quiet(), side.kept()), (5, 2, (3,)))
        side.greet()
        self.same((side.seen(), side.idle(), side.quiet(), side.kept()), (0, 0, 0, ()))


class FallAndClose(SideCase):
    def test_fall(self):
        for side in each_state(*SOME, make=WINDOWED):
            side.beat()
            side.take(word(7, "hi"))
            before = stand(side)
            self.same(side.fall(), ())
            self.changed(side, before, state="off")
            self.same(side.fall(), ())
            self.changed(side, before, state="off")

    def test_close(self):
        for side in each_state(*SOME, make=WINDOWED):
            side.beat()
            side.take(word(7, "hi"))
            before = stand(side)
            self.same(side.close(), () if before["state"] == "off" else (bye("a"),))
            self.changed(side, before, state="off")
            self.same(side.close(), ())
            self.changed(side, before, state="off")

    def test_it_opens_again(self):
        for end in ("fall", "close"):
            for side in each_state(*SOME):
                getattr(side, end)()
                self.same(side.greet(), (hello(0, 2, 5, 0, side="a"),))

    def test_a_bye_has_its_name(self):
        side = waiting(name="b")
        self.same(side.close(), (bye("b"),))


class TakeAtAll(SideCase):
    def test_of_itself(self):
        letters = (word(5, "hi", side="a"), bye("a"), hello(side="a"), hello(7, side="a"), fill(1, 9, side="a"),
                   own(5, "ask", 1, 0, side="a"), own(5, "test", 1, side="a"))
        for side in each_state(*SOME):
            side.beat()
            for letter in letters:
                before = stand(side)
                self.takes(side, letter, "side")
                self.changed(side, before, log=before["log"] + ("side",))

    def test_where_it_is_off(self):
        letters = (word(5, "hi"), bye(), hello(), hello(7), fill(1, 9), own(5, "ask", 1, 0), own(5, "test", 1))
        fallen = on(*SOME)
        fallen.beat()
        fallen.fall()
        for side in (made(*SOME), fallen):
            for letter in letters:
                before = stand(side)
                self.takes(side, letter, "off")
                self.changed(side, before, log=before["log"] + ("off",))

    def test_bye(self):
        for side in each_state(*SOME)[1:]:
            side.beat()
            side.beat()
            before = stand(side)
            self.takes(side, bye(), "bye")
            self.changed(side, before, state="off", quiet=0, log=before["log"] + ("bye",))

    def test_early(self):
        for letter in (word(5, "hi"), word(1, "hi"), word(9, "hi"), fill(1, 9), own(5, "ask", 1, 0), own(5, "test", 1),
                       own(5, "beat", 0)):
            for reset in (True, False):
                side = waiting(*SOME, reset=reset)
                side.beat()
                before = stand(side)
                self.takes(side, letter, "early")
                self.changed(side, before, quiet=0, log=before["log"] + ("early",))

    def test_apart(self):
        for away in (2, 3, 4, 900, -2, -3, -5):
            for reply in (True, False):
                for side in each_state(*[("round", 1)] * 5)[1:]:
                    side.beat()
                    before = stand(side)
                    self.takes(side, hello(5 + away, 7, 9, 3, reset=True, reply=reply), "apart")
                    self.changed(side, before, quiet=0, log=before["log"] + ("apart",))

    def test_no_letter(self):
        for side in each_state(*SOME):
            before = inside(side)
            for thing in strangers() + ([*bye()], fill(7, 7), own(0, "beat", 0), hello(1000), ("a", 7), "off"):
                refused(self, NoLetter, side.take, thing)
                refused(self, NoLetter, side.take, letter=thing)
            for letter in (word(5, "hi"), hello(0, 3, 4, 2)):
                for thing in put_otherwise(letter):
                    refused(self, NoLetter, side.take, thing)
            self.same(inside(side), before)

    def test_by_name(self):
        side = waiting()
        self.same(side.take(letter=hello()), ("hello", (hello(reply=True, side="a"),)))


# Words one and two have the numbers 2 and 3, three waits; 4 is next, 5 is awaited; two rounds were put before.
BOTH = (("got", 3), ("round", 3), ("got", 8), ("round", 8))
TWO_ON = BOTH + (
    ("tell", "one"), ("tell", "two"), ("tell", "three"), ("own",), ("word",), ("word",), ("got", 5),
)
THREE = (("word",),)


class HelloWhileItWaits(SideCase):
    def comes_up(self, side, letter, seen, entries, *letters):
        """It was waiting over TWO_ON, takes the hello, and stands so."""
        side.beat()
        before = stand(side)
        self.takes(side, letter, "hello", *letters)
        self.changed(side, before, state="on", seen=seen, quiet=0, entries=TWO_ON + entries, log=before["log"] + ("hello",))

    def test_of_its_own_round(self):
        for reset in (True, False):
            self.comes_up(waiting(*TWO_ON), hello(2, 6, 4, 1, reset=reset), 6, THREE,
                          hello(2, 3, 5, 8, reply=True, side="a"), word(4, "three", side="a"))

    def test_a_reply_isn_t_answered(self):
        for reset in (True, False):
            self.comes_up(waiting(*TWO_ON), hello(2, 6, 4, 1, reset=reset, reply=True), 6, THREE, word(4, "three", side="a"))

    def test_top_below_the_awaited_number(self):
        self.comes_up(waiting(*TWO_ON), hello(2, 0, 1, 0, reply=True), 0, THREE, word(4, "three", side="a"))

    def test_skip_where_next_is_above_the_next_number(self):
        for above in (5, 6, 9000):
            side = waiting(*TWO_ON)
            self.comes_up_missing(side, above, False)
            side = waiting(*TWO_ON)
            self.comes_up_missing(side, above, True)

    def comes_up_missing(self, side, above, reply):
        letters = [] if reply else [hello(2, above - 1, 5, 8, reply=True, side="a")]
        self.takes(side, hello(2, 1, above, 0, reply=reply), "hello", *letters, word(above, "three", side="a"))
        self.same(side.missing(), ((2, 4, above - 1),))
        self.same(side.store().entries(), TWO_ON + (("skip", above),) + THREE)
        self.same((side.state(), side.seen(), side.unsaid()), ("on", 1, ()))

    def test_no_skip_where_next_isn_t_above(self):
        for wanted in (1, 2, 3, 4):
            side = waiting(*TWO_ON)
            self.comes_up(side, hello(2, 6, wanted, 1, reply=True), 6, THREE, word(4, "three", side="a"))

    def test_both_reset_by_a_hello_that_is_no_reply(self):
        for wanted, unsaid in ((1, ((2, 2, "one"), (2, 3, "two"))), (2, ((2, 2, "one"), (2, 3, "two"))),
                               (3, ((2, 3, "two"),)), (4, ()), (9, ())):
            side = waiting(*TWO_ON, reset=True)
            self.takes(side, hello(2, 6, wanted, 1, reset=True), "hello", hello(3, 0, 1, 5, reset=True, reply=True, side="a"),
                       word(1, "three", side="a"))
            self.same(side.store().entries(), TWO_ON + (("round", 5),) + THREE)
            self.same(side.unsaid(), unsaid)
            self.same((side.state(), side.seen(), side.missing()), ("on", 0, ()))

    def test_both_reset_by_a_reply_puts_no_round(self):
        side = waiting(*TWO_ON, reset=True)
        self.comes_up(side, hello(2, 6, 4, 1, reset=True, reply=True), 6, THREE, word(4, "three", side="a"))
        side = waiting(*TWO_ON, reset=True)
        self.comes_up_missing_of_reset(side)

    def comes_up_missing_of_reset(self, side):
        self.takes(side, hello(2, 6, 7, 1, reset=True, reply=True), "hello", word(7, "three", side="a"))
        self.same((side.missing(), side.seen()), (((2, 4, 6),), 6))

    def test_one_of_both_resets(self):
        for mine, theirs in ((True, False), (False, True)):
            side = waiting(*TWO_ON, reset=mine)
            self.comes_up(side, hello(2, 6, 4, 1, reset=theirs), 6, THREE,
                          hello(2, 3, 5, 8, reset=mine, reply=True, side="a"), word(4, "three", side="a"))

    def test_one_more(self):
        for mine in (True, False):
            for theirs in (True, False):
                for reply in (True, False):
                    for past, unsaid in ((0, ((2, 2, "one"), (2, 3, "two"))), (2, ((2, 2, "one"), (2, 3, "two"))),
                                         (3, ((2, 3, "two"),)), (4, ()), (10000, ())):
                        self.one_more(waiting(*TWO_ON, reset=mine), mine, theirs, reply, past, unsaid)

    def one_more(self, side, mine, theirs, reply, past, unsaid):
        letters = [] if reply else [hello(3, 0, 1, 5, reset=mine, reply=True, side="a")]
        self.takes(side, hello(3, 6, 9, past, reset=theirs, reply=reply), "hello", *letters, word(1, "three", side="a"))
        self.same(side.store().entries(), TWO_ON + (("round", 5),) + THREE)
        self.same((side.state(), side.seen(), side.unsaid(), side.missing()), ("on", 6, unsaid, ()))

    def test_one_less(self):
        for mine in (True, False):
            for theirs in (True, False):
                side = waiting(*TWO_ON, reset=mine)
                self.comes_up(side, hello(1, 6, 9, 1, reset=theirs), 0, THREE,
                              hello(2, 3, 5, 8, reset=mine, reply=True, side="a"), word(4, "three", side="a"))
                side = waiting(*TWO_ON, reset=mine)
                self.comes_up(side, hello(1, 6, 9, 1, reset=theirs, reply=True), 0, THREE, word(4, "three", side="a"))

    def test_all_words_that_wait_are_sent_in_turn(self):
        side = waiting(("tell", "one"), ("tell", "two"), ("lost",))
        side.tell("three")
        self.takes(side, hello(), "hello", hello(reply=True, side="a"), word(1, "one", again=True, side="a"),
                   word(2, "two", again=True, side="a"), word(3, "three", again=True, side="a"))
        self.same(side.store().waiting(), ())
        self.same(side.store().entries()[-3:], (("word",),) * 3)

    def test_words_in_a_new_round_are_in_no_doubt(self):
        side = waiting(("tell", "one"), ("lost",))
        self.takes(side, hello(1, reply=True), "hello", word(1, "one", side="a"))

    def test_words_that_wait_go_into_the_new_round_and_aren_t_unsaid(self):
        side = waiting(("tell", "one"), ("tell", "two"), ("word",))
        side.take(hello(1, 0, 1, 1))
        self.same(side.unsaid(), ((0, 1, "one"),))
        self.same(side.store().words(), ((1, "two"),))

    def test_unsaid_and_missing_behind_several_rounds(self):
        side = waiting(("tell", "one"), ("word",))
        side.take(hello(1, 0, 1, 1))
        side.tell("two")
        side.fall()
        side.greet()
        side.take(hello(1, 0, 5, 1))
        side.tell("three")
        side.fall()
        side.greet()
        side.take(hello(2, 0, 1, 1))
        self.same(side.unsaid(), ((0, 1, "one"), (1, 1, "two"), (1, 5, "three")))
        self.same(side.missing(), ((1, 2, 4),))
        self.same(side.store().round(), 2)

    def test_without_numbers(self):
        side = waiting()
        self.takes(side, hello(), "hello", hello(reply=True, side="a"))
        self.same(side.store().entries(), ())


class HelloWhileItIsOn(SideCase):
    def stays_on(self, letter, seen, *letters, reset=False):
        side = waiting(*TWO_ON, reset=reset)
        side.take(hello(2, 7, 4, reply=True))
        side.beat()
        before = stand(side)
        self.takes(side, letter, "hello", *letters)
        self.changed(side, before, seen=seen, quiet=0, log=before["log"] + ("hello",))

    def test_of_its_own_round_it_has_seen_numbers_to_top(self):
        for top, seen in ((0, 7), (6, 7), (7, 7), (8, 8), (9000, 9000)):
            self.stays_on(hello(2, top, 9, 0, reply=True), seen)
            self.stays_on(hello(2, top, 9, 0), seen, hello(2, 5, 5, 8, reply=True, side="a"))

    def test_of_another_round_it_has_not(self):
        for turn in (1, 3):
            for top in (0, 9, 9000):
                self.stays_on(hello(turn, top, 9, 0, reply=True), 7)
                self.stays_on(hello(turn, top, 9, 0), 7, hello(2, 5, 5, 8, reply=True, side="a"))

    def test_reset_changes_nothing(self):
        for turn in (1, 2, 3):
            self.stays_on(hello(turn, 0, 1, 0, reset=True), 7, hello(2, 5, 5, 8, reset=True, reply=True, side="a"),
                          reset=True)
            self.stays_on(hello(turn, 0, 1, 0, reset=True, reply=True), 7, reset=True)


class TakeNumbered(SideCase):
    def heard(self, side, letter, word, seen, entry, *letters):
        """It takes the letter up, and stands so."""
        side.beat()
        before = stand(side)
        store = side.store()
        row = (store.round(), store.next_in()) + entry[1:]
        self.takes(side, letter, word, *letters)
        heard = before["heard"] + ((row,) if entry[0] == "heard" else ())
        entries = before["entries"] + (entry,) + (("own",),) * len([one for one in letters if not one[2]])
        idle = before["idle"] if entries[-1] != ("own",) else 0
        self.changed(side, before, seen=seen, quiet=0, heard=heard, entries=entries, idle=idle, log=before["log"] + (word,))

    def test_word_at_the_awaited_number(self):
        self.heard(on(), word(1, "hi"), "word", 1, ("heard", "hi", False))
        self.heard(on(*SOME), word(5, "hi"), "word", 5, ("heard", "hi", False))
        self.heard(on(*TWO_ON), word(5, "hi"), "word", 5, ("heard", "hi", False))
        self.heard(on(*SOME, make=WINDOWED), word(5, "hi"), "word", 5, ("heard", "hi", False))

    def test_in_doubt_where_the_store_is_doubtful_and_the_word_is_again(self):
        self.heard(on(*SOME), word(5, "hi", again=True), "word", 5, ("heard", "hi", False))
        self.heard(on(*SOME, ("lost",)), word(5, "hi"), "word", 5, ("heard", "hi", False))
        self.heard(on(*SOME, ("lost",)), word(5, "hi", again=True), "word", 5, ("heard", "hi", True))
        self.heard(on(("lost",), ("round", 1)), word(1, "hi", again=True), "word", 1, ("heard", "hi", False))

    def test_own_letters_at_the_awaited_number(self):
        self.heard(on(*SOME), own(5, "beat", 0), "own", 5, ("got", 6))
        self.heard(on(*SOME), own(5, "beat", 77), "own", 5, ("got", 6))
        self.heard(on(*SOME), own(5, "ask", 3, 0), "own", 5, ("got", 6))

    def test_a_test_is_answered_by_a_beat_with_its_key(self):
        for key in (1, 7, 9999):
            self.heard(on(*SOME), own(5, "test", key), "own", 5, ("got", 6), own(3, "beat", key, side="a"))

    def test_an_ask_is_answered(self):
        again = (fill(1, 2, side="a"), word(2, "one", again=True, side="a"))
        self.heard(on(*SOME), own(5, "ask", 1, 0), "own", 5, ("got", 6), *again)
        self.heard(on(*SOME), own(5, "ask", 1, 1), "own", 5, ("got", 6), again[0])
        self.heard(on(*SOME), own(5, "ask", 2, 9999), "own", 5, ("got", 6), again[1])

    def test_fills_from_at_and_below_to_beyond(self):
        for number in (1, 2, 4, 5):
            for behind in (6, 7, 9, 9000):
                self.heard(on(*SOME), fill(number, behind), "own", behind - 1, ("got", behind))

    def test_low(self):
        for letter in (word(1, "hi"), word(4, "hi"), word(4, "hi", again=True), own(3, "beat", 0), own(4, "test", 5),
                       own(4, "ask", 1, 0), own(1, "ask", 1, 0), fill(1, 2), fill(1, 5), fill(4, 5)):
            for make in (PLAIN, WINDOWED):
                side = on(*SOME, make=make)
                side.beat()
                before = stand(side)
                self.takes(side, letter, "low")
                seen = letter[3][1] - 1 if letter[3][0] == "fill" else letter[1]
                self.changed(side, before, quiet=0, seen=seen, log=before["log"] + ("low",))

    def test_a_low_one_counts_as_seen_no_more_than_what_was_seen(self):
        side = on(*SOME, top=9)
        self.takes(side, word(2, "hi"), "low")
        self.same(side.seen(), 9)

    def test_gap_is_asked_for(self):
        for letter, seen in ((word(6, "hi"), 6), (word(7, "hi"), 7), (word(900, "hi", again=True), 900), (own(6, "beat", 3), 6),
                             (own(6, "test", 3), 6), (fill(6, 9), 8), (fill(6, 9000), 8999)):
            side = on(*SOME)
            side.beat()
            before = stand(side)
            self.takes(side, letter, "gap", own(3, "ask", 5, 0, side="a"))
            self.changed(side, before, quiet=0, idle=0, seen=seen, entries=SOME + (("own",),), log=before["log"] + ("gap",))

    def test_an_ask_beyond_is_answered_ahead_of_its_own(self):
        side = on(*SOME)
        self.takes(side, own(9, "ask", 1, 0), "gap", fill(1, 2, side="a"), word(2, "one", again=True, side="a"),
                   own(3, "ask", 5, 0, side="a"))
        self.takes(side, own(8, "ask", 2, 0), "gap", word(2, "one", again=True, side="a"), fill(3, 4, side="a"))
        self.takes(side, own(8, "ask", 7, 0), "gap")
        self.same(side.store().entries(), SOME + (("own",),))

    def test_one_ask_till_the_next_beat(self):
        side = on(*SOME)
        self.takes(side, word(7, "hi"), "gap", own(3, "ask", 5, 0, side="a"))
        for letter in (word(8, "hi"), word(7, "hi"), word(9, "ho"), fill(6, 20), own(30, "test", 3)):
            self.takes(side, letter, "gap")
        self.takes(side, word(5, "hi"), "word")
        self.takes(side, word(7, "hi"), "gap")
        # It has seen 7 and more, so it asks in the beat itself; after it there is none again.
        self.same(side.beat(), (own(4, "ask", 6, 0, side="a"),))
        self.takes(side, word(8, "hi"), "gap")

    def test_a_beat_that_doesn_t_ask_lets_it_ask_again(self):
        side = on(*SOME)
        self.takes(side, word(6, "hi"), "gap", own(3, "ask", 5, 0, side="a"))
        self.takes(side, fill(5, 7), "own")
        self.takes(side, word(9, "hi"), "gap")
        self.takes(side, fill(7, 10), "own")
        self.same(side.beat(), ())
        self.takes(side, word(11, "hi"), "gap", own(4, "ask", 10, 0, side="a"))
        self.takes(side, word(11, "hi"), "gap")

    def test_an_opening_lets_it_ask_again(self):
        side = on(*SOME)
        self.takes(side, word(7, "hi"), "gap", own(3, "ask", 5, 0, side="a"))
        side.fall()
        side.greet()
        side.take(hello(0, 9, 1, reply=True))
        self.takes(side, word(7, "hi"), "gap", own(4, "ask", 5, 0, side="a"))
        self.takes(side, word(8, "hi"), "gap")

    def test_a_hello_alone_doesn_t_let_it_ask_again(self):
        side = on(*SOME)
        self.takes(side, word(7, "hi"), "gap", own(3, "ask", 5, 0, side="a"))
        side.take(hello(0, 9, 1, reply=True))
        self.takes(side, word(7, "hi"), "gap")

    def test_a_hello_alone_isn_t_asked_for(self):
        side = on(*SOME, top=900)
        self.same(side.store().entries(), SOME)
        self.takes(side, hello(0, 950, 1, reply=True), "hello")
        self.same(side.store().entries(), SOME)

    def test_letters_one_behind_the_other(self):
        side = on()
        for letter, told in ((word(1, "one"), "word"), (word(1, "one"), "low"), (own(2, "beat", 0), "own"), (fill(2, 4), "own"),
                             (word(4, "four", again=True), "word"), (word(3, "x"), "low")):
            self.takes(side, letter, told)
        self.same(side.heard(), ((0, 1, "one", False), (0, 4, "four", False)))
        self.same(side.store().heard(), side.heard())
        self.same(side.log()[1:], ("word", "low", "own", "own", "word", "low"))


if __name__ == "__main__":
    import unittest

    unittest.main()
