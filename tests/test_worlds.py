"""Points 17 and 18: worlds, deed by deed, and how they stand."""

import unittest

from gapfill.bounds import PAUSE, PLAIN, WIDE, WINDOWED
from gapfill.carrying import carried
from gapfill.errors import Busy, NoCount, NoDeed, NoMake, NoPause, NoPlace, NoSide, NoText, NoWide, NoWorld
from gapfill.sides import Side
from gapfill.stores import Store
from gapfill.worlds import World, need_world
from tests.benches import inside
from tests.runs import BOTH_ON, BOTH_WAIT, BRING_A, BRING_B, OPEN_A, OPEN_B, OTHER, begun, stand, world, worlds
from tests.things import bye, fill, hello, own, put_otherwise, refused, strangers, word

A_WAITS = (OPEN_A,)
FALL = (("fall",), ())


class WorldCase(unittest.TestCase):
    def same(self, told, awaited):
        self.assertEqual(repr(told), repr(awaited))

    def way(self, made, name, *letters):
        self.same(made.under_way(name), letters)

    def states(self, made, a, b):
        self.same((made.side("a").state(), made.side("b").state()), (a, b))

    def last(self, made, name, *rows):
        """The last rows of a side's trace."""
        self.same(made.side(name).trace()[-len(rows):], rows)

    def not_done(self, refusal, made, deed):
        """Refused by do and by do_all, and nothing is changed."""
        before, alike = stand(made), world(*made.deeds())
        error = refused(self, refusal, made.do, deed)
        refused(self, refusal, made.do, deed=deed)
        refused(self, refusal, made.do_all, (deed,))
        self.same(stand(made), before)
        self.assertEqual(made, alike)
        return error


class Made(WorldCase):
    def test_at_first(self):
        for made in (World(), World(makes=(PLAIN, PLAIN), pause=PAUSE, wide=WIDE),
                     World(wide=1, pause=60, makes=(WINDOWED, PLAIN))):
            for name in "ab":
                for tell in (made.under_way, made.words, made.heard):
                    self.same(tell(name), ())
                self.same(made.side(name).store().entries(), ())
            self.states(made, "off", "off")
            self.same((made.deeds(), len(made), bool(made)), ((), 0, False))

    def test_makes_pause_and_wide_of_its_sides(self):
        deeds = BOTH_ON + (("tell", "a", "one"), ("tell", "a", "two"), ("tell", "a", "three"), ("tell", "b", "one"),
                           ("tell", "b", "two"), ("tell", "b", "three"))
        deeds += (("bring", "a", 1), ("bring", "a", 1), ("bring", "b", 1), ("bring", "b", 1))
        for makes in ((PLAIN, PLAIN), (PLAIN, WINDOWED), (WINDOWED, PLAIN), (WINDOWED, WINDOWED)):
            for wide, kept in ((1, ()), (2, (2,)), (8, (2, 3))):
                made = world(*deeds, makes=makes, wide=wide)
                for make, name in zip(makes, "ab"):
                    self.same(made.side(name).kept(), kept if make == WINDOWED else ())
        for pause in (3, 5, 60):
            made = world(*A_WAITS, pause=pause)
            made.do_all((("beat", "a"),) * (3 * pause - 1))
            self.states(made, "waits", "off")
            made.do(("beat", "a"))
            self.states(made, "off", "off")

    def test_no_make(self):
        for thing in strangers() + (PLAIN, [PLAIN, PLAIN], (PLAIN,), (PLAIN, PLAIN, PLAIN), (PLAIN, "Plain"), ("window", PLAIN),
                                    (PLAIN, None), (True, PLAIN), ((PLAIN, PLAIN),), {PLAIN: PLAIN}, "ab", ("a", "b")):
            refused(self, NoMake, World, makes=thing)
            refused(self, NoMake, World, wide=0, pause=0, makes=thing)
        for thing in strangers():
            refused(self, NoMake, World, makes=(thing, PLAIN))
            refused(self, NoMake, World, makes=(PLAIN, thing))

    def test_no_pause_and_no_wide(self):
        for thing in strangers() + (True, False, 0, 1, 2, 61, "5", (5,)):
            refused(self, NoPause, World, pause=thing)
            refused(self, NoPause, World, wide=0, pause=thing)
        for thing in strangers() + (True, False, 0, 100, "8", (8,)):
            refused(self, NoWide, World, wide=thing)
        for pause, wide in ((3, 1), (60, 99)):
            World(pause=pause, wide=wide)

    def test_all_behind_the_star(self):
        self.assertRaises(TypeError, World, (PLAIN, PLAIN))
        self.assertRaises(TypeError, World, (PLAIN, PLAIN), 5, 8)

    def test_methods_stand_in_the_class_itself(self):
        for name in ("do", "do_all", "side", "under_way", "words", "heard", "deeds", "__init__", "__len__", "__eq__"):
            self.assertIn(name, vars(World))
        self.assertEqual(World.__module__, "gapfill.worlds")


class Deeds(WorldCase):
    """Each deed at a side that is off, that waits, that is on."""

    def test_tell(self):
        for deeds, state in (((), "off"), (A_WAITS, "waits"), (BOTH_ON, "on")):
            made = world(*deeds)
            way = made.under_way("a")
            self.assertIsNone(made.do(("tell", "a", "hi")))
            self.assertIsNone(made.do(deed=("tell", "a", "ho 2")))
            sent = (word(1, "hi", side="a"), word(2, "ho 2", side="a")) if state == "on" else ()
            self.way(made, "a", *way, *sent)
            self.same(made.side("a").store().waiting(), () if sent else ("hi", "ho 2"))
            self.same(made.words("a"), ((0, 1, "hi"), (0, 2, "ho 2")) if sent else ())
            self.same((made.words("b"), made.heard("a"), made.heard("b")), ((), (), ()))
            self.same(made.deeds(), deeds + (("tell", "a", "hi"), ("tell", "a", "ho 2")))

    def test_tell_b(self):
        made = world(*BOTH_ON, ("tell", "b", "hi"))
        self.way(made, "a")
        self.way(made, "b", word(1, "hi"))
        self.same((made.words("a"), made.words("b")), ((), ((0, 1, "hi"),)))

    def test_open(self):
        made = world(("tell", "a", "hi"))
        self.assertIsNone(made.do(("open", "a", True)))
        self.states(made, "waits", "off")
        self.way(made, "a", hello(reset=True, side="a"))
        for deeds in (A_WAITS, BOTH_WAIT, BOTH_ON):
            for reset in (True, False):
                self.not_done(Busy, world(*deeds), ("open", "a", reset))

    def test_close(self):
        for deeds in ((), A_WAITS, BOTH_WAIT, BOTH_ON):
            made = world(*deeds)
            a, b = made.under_way("a"), made.under_way("b")
            other = made.side("b").state()
            made.do(("close", "a"))
            self.states(made, "off", other)
            self.way(made, "a", *a, *((bye("a"),) if deeds else ()))
            self.way(made, "b", *b)
            self.last(made, "a", (("close",), (bye("a"),) if deeds else ()))

    def test_beat(self):
        made = world(("beat", "a"))
        self.same(made.side("a").trace(), ((("beat",), ()),))
        self.same(made.side("a").quiet(), 0)
        made = world(*A_WAITS, ("beat", "a"))
        self.way(made, "a", hello(side="a"), hello(side="a"))
        self.same((made.side("a").quiet(), made.side("b").quiet()), (1, 0))
        made = world(*BOTH_ON, *(("beat", "b"),) * PAUSE)
        self.way(made, "a")
        self.way(made, "b", own(1, "beat", 0))
        self.same((made.side("a").quiet(), made.side("b").quiet()), (0, PAUSE))

    def test_bring(self):
        made = world(OPEN_A, ("tell", "a", "hi"))
        made.do(BRING_A)
        self.way(made, "a")
        self.same(made.side("b").log(), ("off",))
        made = world(*BOTH_WAIT, ("tell", "b", "hi"))
        made.do(BRING_A)
        self.states(made, "waits", "on")
        self.way(made, "a")
        self.way(made, "b", hello(), hello(reply=True), word(1, "hi"))
        self.same((made.words("b"), made.heard("a")), (((0, 1, "hi"),), ()))
        made.do(("bring", "b", 2))
        self.way(made, "b", hello(), hello(reply=True))
        self.same((made.side("a").log(), made.heard("a")), (("early",), ()))
        made.do(BRING_B)
        self.way(made, "a", hello(side="a", reply=True))
        self.way(made, "b", hello(reply=True))

    def test_bring_of_each_place(self):
        tells = tuple([("tell", "a", text) for text in ("one", "two", "three")])
        for at in range(3):
            made = world(*BOTH_ON, *tells, ("bring", "a", at))
            letters = [word(1, "one", side="a"), word(2, "two", side="a"), word(3, "three", side="a")]
            came = letters.pop(at)
            self.way(made, "a", *letters)
            self.way(made, "b", *((own(1, "ask", 1, 0),) if at > 0 else ()))
            self.last(made, "b", (("take", came), made.under_way("b")))
            self.same(made.heard("b"), ((0, 1, "one", False),) if at == 0 else ())
            self.same(made.words("a"), ((0, 1, "one"), (0, 2, "two"), (0, 3, "three")))

    def test_letters_that_come_go_behind_the_others(self):
        made = world(*BOTH_ON, ("tell", "b", "yes"), ("tell", "a", "one"), ("tell", "a", "two"), ("bring", "a", 1),
                     ("tell", "b", "no"))
        self.way(made, "b", word(1, "yes"), own(2, "ask", 1, 0), word(3, "no"))
        made.do(("bring", "b", 0))
        made.do(("bring", "b", 0))
        self.way(made, "a", word(1, "one", side="a"), word(1, "one", again=True, side="a"), word(2, "two", again=True, side="a"))

    def test_lose(self):
        for at in range(3):
            made = world(*BOTH_ON, *[("tell", "b", text) for text in ("one", "two", "three")])
            before = inside(made.side("a")), inside(made.side("b"))
            letters = list(made.under_way("b"))
            self.assertIsNone(made.do(("lose", "b", at)))
            letters.pop(at)
            self.way(made, "b", *letters)
            self.same((inside(made.side("a")), inside(made.side("b"))), before)

    def test_double(self):
        for at in range(3):
            made = world(*BOTH_ON, *[("tell", "b", text) for text in ("one", "two", "three")])
            before = inside(made.side("a")), inside(made.side("b"))
            letters = made.under_way("b")
            self.assertIsNone(made.do(("double", "b", at)))
            self.way(made, "b", *letters, letters[at])
            self.same((inside(made.side("a")), inside(made.side("b"))), before)
            made.do(("double", "b", 3))
            self.way(made, "b", *letters, letters[at], letters[at])

    def test_letters_under_way_of_a_side_that_is_off_come(self):
        made = world(*BOTH_ON, ("tell", "a", "hi"), ("close", "a"))
        made.do(("double", "a", 0))
        made.do_all((BRING_A, BRING_A))
        self.same(made.heard("b"), ((0, 1, "hi", False),))
        self.states(made, "off", "off")
        made.do(BRING_A)
        self.same(made.side("b").log()[-3:], ("word", "bye", "off"))

    def test_fall(self):
        for deeds in ((), A_WAITS, BOTH_WAIT, BOTH_ON + (("tell", "a", "hi"), ("tell", "b", "ho"), ("beat", "a"))):
            made = world(*deeds)
            before = [made.side(name) for name in "ab"]
            self.assertIsNone(made.do(("fall",)))
            for name, side in zip("ab", before):
                side.fall()
                self.same(inside(made.side(name)), inside(side))
                self.way(made, name)
            self.states(made, "off", "off")
            self.last(made, "a", FALL)
            self.last(made, "b", FALL)
            self.same(len(made), 0)

    def test_crash(self):
        for deeds in ((), A_WAITS, BOTH_WAIT, BOTH_ON + (("tell", "a", "hi"), ("tell", "b", "ho"), BRING_B, ("beat", "a"))):
            made = world(*deeds, makes=(WINDOWED, PLAIN), wide=3, pause=4)
            a, b = made.side("a"), made.side("b")
            words, heard = made.words("a"), made.heard("a")
            self.assertIsNone(made.do(("crash", "a")))
            b.fall()
            self.same(inside(made.side("b")), inside(b))
            self.same(inside(made.side("a")), inside(Side(a.store(), "a", make=WINDOWED, wide=3, pause=4)))
            self.same((made.words("a"), made.heard("a")), (words, heard))
            self.way(made, "a")
            self.way(made, "b")
            self.same((made.side("a").heard(), made.side("a").log(), made.side("a").trace()), ((), (), ()))

    def test_a_side_made_anew_goes_on_as_it_was_made(self):
        tells = tuple([("tell", name, text) for name in "ab" for text in ("one", "two", "three")])
        for name in "ab":
            for makes, kept in (((WINDOWED, WINDOWED), (2,)), ((PLAIN, PLAIN), ())):
                made = world(("crash", name), *BOTH_ON, *tells, makes=makes, wide=2, pause=3)
                made.do_all((("bring", OTHER[name], 1), ("bring", OTHER[name], 1)))
                self.same(made.side(name).kept(), kept)
                made.do_all((("beat", name),) * 9)
                self.states(made, "off", "off")

    def test_cut(self):
        deeds = BOTH_ON + (("tell", "a", "one"), ("tell", "a", "two"), ("fall",))
        entries = (("tell", "one"), ("word",), ("tell", "two"), ("word",))
        for many in range(5):
            made = world(*deeds)
            before = made.side("b")
            self.assertIsNone(made.do(("cut", "a", many)))
            self.same(made.side("a").store().entries(), entries[:4 - many] + ((("lost",),) if many else ()))
            self.same(made.words("a"), ((0, 1, "one"), (0, 2, "two")))
            self.same(inside(made.side("b")), inside(before))
            self.same(made.deeds(), deeds + (("cut", "a", many),))
        for deeds in (A_WAITS, BOTH_WAIT, BOTH_ON):
            for many in (0, 1, 99):
                self.not_done(Busy, world(*deeds), ("cut", "a", many))
        made = world(OPEN_A, ("tell", "b", "hi"))
        made.do(("cut", "b", 1))
        self.states(made, "waits", "off")
        self.way(made, "a", hello(side="a"))

    def test_deeds_told(self):
        deeds = BOTH_ON + (("tell", "a", "hi"), ("double", "a", 0), BRING_A, ("lose", "a", 0), ("beat", "b"), ("close", "a"),
                           ("fall",),
                           ("cut", "a", 1), ("crash", "b"), ("open", "b", True))
        made = World()
        for at, deed in enumerate(deeds):
            made.do(deed)
            self.same(made.deeds(), deeds[:at + 1])


class Falls(WorldCase):
    """The falls ahead of an opening, and behind a beat that puts a side off."""

    def test_ahead_of_the_first_opening(self):
        made = world(OPEN_A)
        self.same(made.side("a").trace(), (FALL, (("open", False), (hello(side="a"),))))
        self.same(made.side("b").trace(), (FALL,))

    def test_none_where_the_other_waits_and_nothing_is_under_way_from_itself(self):
        made = world(*BOTH_WAIT)
        self.states(made, "waits", "waits")
        self.way(made, "a", hello(side="a"))
        self.way(made, "b", hello())
        self.same(made.side("b").trace(), (FALL, (("open", False), (hello(),))))
        self.same(len(made.side("a").trace()), 2)
        # What is under way from the other side doesn't count.
        made = world(OPEN_A, ("beat", "a"), OPEN_B)
        self.states(made, "waits", "waits")
        self.same(len(made), 3)
        made = world(OPEN_A, ("lose", "a", 0), OPEN_B)
        self.states(made, "waits", "waits")

    def test_where_the_other_waits_and_a_letter_is_under_way_from_itself(self):
        for behind in ((("close", "b"),), (("close", "b"), ("lose", "b", 0)),
                       (("beat", "b"), ("lose", "b", 0), ("close", "b"), ("lose", "b", 0))):
            made = world(*BOTH_WAIT, *behind)
            self.assertGreater(len(made.under_way("b")), 0)
            made.do(OPEN_B)
            self.states(made, "off", "waits")
            self.way(made, "a")
            self.way(made, "b", hello())
            self.last(made, "a", FALL)
            self.last(made, "b", FALL, (("open", False), (hello(),)))
        made = world(*BOTH_WAIT, ("close", "b"), ("lose", "b", 0), ("lose", "b", 0), OPEN_B)
        self.states(made, "waits", "waits")

    def test_where_the_other_is_on_or_off(self):
        for made in (world(*BOTH_ON, ("close", "b"), ("lose", "b", 0)), world(*BOTH_ON, ("close", "b"), BRING_B)):
            made.do(("open", "b", True))
            self.states(made, "off", "waits")
            self.last(made, "a", FALL)
            self.last(made, "b", FALL, (("open", True), (hello(reset=True),)))
            self.way(made, "b", hello(reset=True))
        made = world(*BOTH_ON, ("tell", "a", "hi"), ("close", "b"), OPEN_B)
        self.way(made, "a")

    def test_a_beat_that_puts_a_side_off(self):
        for name in "ab":
            made = world(*BOTH_ON, ("tell", "a", "hi"), ("tell", "b", "ho"))
            made.do_all((("beat", name),) * (3 * PAUSE - 1))
            self.states(made, "on", "on")
            self.assertGreater(len(made.under_way(name)), 1)
            made.do(("beat", name))
            self.states(made, "off", "off")
            self.way(made, "a")
            self.way(made, "b")
            self.last(made, name, (("beat",), ()), FALL)
            self.last(made, OTHER[name], FALL)
            made.do(("beat", name))
            self.last(made, name, FALL, (("beat",), ()))
            self.last(made, OTHER[name], FALL)

    def test_a_beat_that_puts_off_one_that_waits(self):
        made = world(*BOTH_WAIT, *(("beat", "b"),) * (3 * PAUSE))
        self.states(made, "off", "off")
        self.same(len(made), 0)

    def test_a_beat_of_one_that_is_off(self):
        made = world(*A_WAITS, ("beat", "b"))
        self.states(made, "waits", "off")
        self.way(made, "a", hello(side="a"))

    def test_letters_and_closings_make_none_fall(self):
        made = world(*BOTH_ON, ("tell", "a", "hi"), ("close", "a"), ("lose", "a", 0), ("tell", "b", "ho"), BRING_A)
        self.states(made, "off", "off")
        self.way(made, "b", word(1, "ho"))
        self.last(made, "b", (("take", bye("a")), ()))


class NoDeeds(WorldCase):
    def test_things_of_all_kinds(self):
        for made in (World(), world(*BOTH_WAIT), world(*BOTH_ON)):
            for thing in strangers() + ("fall", ["fall"], ("Fall",), ("falls",), ("greet", "a", False), ("take", "a", bye()),
                                        True, OPEN_A + (7,)):
                self.not_done(NoDeed, made, thing)

    def test_one_thing_put_otherwise(self):
        made = world(*BOTH_ON, ("tell", "a", "hi"))
        for deed in (("tell", "a", "hi"), ("open", "b", True), ("close", "a"), ("beat", "b"), ("bring", "a", 3),
                     ("lose", "a", 3), ("double", "a", 3),
                     ("fall",), ("crash", "a"), ("cut", "b", 3)):
            for thing in put_otherwise(deed):
                # A number of forty figures is a whole one, too.
                if not (type(thing) is tuple and len(thing) == 3 and type(thing[2]) is int and thing[2] > 1):
                    refused(self, NoDeed, made.do, thing)
        self.same(made.deeds(), BOTH_ON + (("tell", "a", "hi"),))

    def test_sides_texts_and_truths(self):
        for thing in strangers() + ("c", "A", "ab", True, 0, ("a",)):
            for deed in (("tell", thing, "hi"), ("open", thing, False), ("close", thing), ("beat", thing),
                         ("bring", thing, 0), ("lose", thing, 0),
                         ("double", thing, 0), ("crash", thing), ("cut", thing, 0)):
                refused(self, NoDeed, World().do, deed)
        for thing in strangers() + ("Hi", "a" * 21, "a,b", 7, True):
            self.not_done(NoDeed, world(*BOTH_ON), ("tell", "a", thing))
        for thing in strangers() + (0, 1, "yes"):
            self.not_done(NoDeed, World(), ("open", "a", thing))
            self.not_done(NoDeed, world(*BOTH_ON), ("open", "a", thing))

    def test_numbers(self):
        made = world(*BOTH_ON, ("tell", "a", "hi"), ("tell", "a", "ho"))
        for thing in (-1, -(10 ** 40), True, False, None, "0", "1", (0,), [0], b"0"):
            for what in ("bring", "lose", "double"):
                self.not_done(NoDeed, made, (what, "a", thing))
            self.not_done(NoDeed, made, ("cut", "a", thing))
            self.not_done(NoDeed, world(("tell", "a", "hi")), ("cut", "a", thing))


class Refused(WorldCase):
    def test_no_place(self):
        for made, many in ((World(), 0), (world(*A_WAITS), 1), (world(*BOTH_ON), 0),
                           (world(*BOTH_ON, ("tell", "a", "hi"), ("tell", "a", "ho")), 2)):
            for at in (many, many + 1, many + 50, 10 ** 40 - 1):
                for what in ("bring", "lose", "double"):
                    self.same(self.not_done(NoPlace, made, (what, "a", at)).at, at)
            for at in range(many):
                for what in ("bring", "lose", "double"):
                    world(*made.deeds(), (what, "a", at))
        made = world(*BOTH_ON, ("tell", "a", "hi"))
        self.same(self.not_done(NoPlace, made, ("bring", "b", 0)).at, 0)

    def test_no_count(self):
        deeds = BOTH_ON + (("tell", "a", "one"), ("tell", "a", "two"), ("fall",))
        for many in (5, 6, 100, 10 ** 40 - 1):
            self.not_done(NoCount, world(*deeds), ("cut", "a", many))
        self.not_done(NoCount, world(), ("cut", "b", 1))
        # Behind a round alone.
        made = world(("tell", "a", "one"), ("open", "a", True), ("open", "b", True), BRING_A, BRING_B, ("fall",))
        self.same(made.side("a").store().entries(), (("tell", "one"), ("round", 1), ("word",)))
        self.not_done(NoCount, made, ("cut", "a", 2))
        made.do(("cut", "a", 1))
        self.same(made.side("a").store().entries(), (("tell", "one"), ("round", 1), ("lost",)))

    def test_busy(self):
        for name, deeds in (("a", A_WAITS), ("b", BOTH_WAIT), ("a", BOTH_ON), ("b", BOTH_ON + (("close", "a"),))):
            for deed in (("open", name, True), ("open", name, False), ("cut", name, 0), ("cut", name, 10 ** 40 - 1)):
                self.not_done(Busy, world(*deeds), deed)


class DoAll(WorldCase):
    DEEDS = BOTH_ON + (("tell", "a", "hi"), ("tell", "b", "ho"), BRING_A, ("double", "b", 0), BRING_B, ("crash", "a"),
                       ("cut", "a", 1), OPEN_B)

    def test_all(self):
        for cut in range(len(self.DEEDS) + 1):
            made = world(*self.DEEDS[:cut])
            self.assertIsNone(made.do_all(self.DEEDS[cut:]))
            self.same(stand(made), stand(world(*self.DEEDS)))
            made.do_all(deeds=())
            self.assertEqual(made, world(*self.DEEDS))

    def test_none_wherever_the_odd_deed_stands(self):
        odd = ((NoDeed, ("fall", 1)), (NoDeed, None), (NoDeed, ("bring", "a", True)), (NoPlace, ("lose", "a", 9)),
               (NoCount, ("cut", "a", 99)))
        for begun_with in ((), BOTH_ON, BOTH_ON + (("tell", "b", "yes"), ("beat", "a"))):
            rest = self.DEEDS if not begun_with else (("tell", "a", "hi"), ("tell", "b", "ho"), BRING_A, ("beat", "b"),
                                                      ("fall",), ("crash", "a"))
            made = world(*begun_with)
            before = stand(made)
            for at in range(len(rest) + 1):
                for refusal, deed in odd:
                    if refusal is NoCount:
                        deed = ("close", "a"), deed
                    else:
                        deed = (deed,)
                    error = refused(self, refusal, made.do_all, rest[:at] + deed + rest[at:])
                    self.same(getattr(error, "at", None), 9 if refusal is NoPlace else None)
                    self.same(stand(made), before)
        made = world(*A_WAITS)
        before = stand(made)
        refused(self, Busy, made.do_all, (("tell", "a", "hi"), OPEN_B, OPEN_B))
        self.same(stand(made), before)

    def test_it_goes_on_behind_a_refusal(self):
        made = world(*BOTH_ON)
        refused(self, NoPlace, made.do_all, (("tell", "a", "hi"), ("bring", "a", 0), ("bring", "a", 0)))
        made.do_all((("tell", "a", "ho"), BRING_A))
        self.same(made.heard("b"), ((0, 1, "ho", False),))
        self.assertEqual(made, world(*BOTH_ON, ("tell", "a", "ho"), BRING_A))

    def test_no_tuple(self):
        made = world(*BOTH_ON)
        before = stand(made)
        for thing in [thing for thing in strangers() if type(thing) is not tuple] + [[], [("fall",)], ("fall",),
                                                                                     {("fall",): 1}, iter(()), "fall"]:
            refused(self, NoDeed, made.do_all, thing)
            refused(self, NoDeed, made.do_all, deeds=thing)
        self.same(stand(made), before)


class Sides(WorldCase):
    def test_by_itself(self):
        for run, made in worlds(25, resets=True, cuts=True):
            before = stand(made)
            for name in "ab":
                side = made.side(name)
                side.tell("hi")
                side.beat()
                side.take(hello(side.store().round(), 9, 1, side=OTHER[name]))
                side.take(word(9, "hi", side=OTHER[name]))
                side.close()
                side.store().put(("own",))
                side.store().cut(1)
                side.greet()
            self.same(stand(made), before)

    def test_a_world_changes_no_side_that_was_taken_out(self):
        made = world(*BOTH_ON, ("tell", "a", "hi"), makes=(WINDOWED, WINDOWED))
        sides = [made.side(name) for name in "ab"]
        shown = [inside(side) for side in sides]
        made.do_all((BRING_A, ("tell", "a", "ho"), ("tell", "a", "ha"), ("bring", "a", 1), ("beat", "a"), ("fall",),
                     ("cut", "a", 1), ("crash", "b")))
        self.same([inside(side) for side in sides], shown)
        self.assertIsNot(made.side("a"), made.side("a"))
        self.assertIsNot(made.side("a").store(), made.side("a").store())

    def test_as_it_stands(self):
        # The same deeds, done to sides by hand.
        made = world(*BOTH_ON, ("tell", "a", "hi"), ("tell", "a", "ho"), ("bring", "a", 1), ("beat", "b"),
                     makes=(PLAIN, WINDOWED), pause=7, wide=2)
        side = Side(Store(), "b", make=WINDOWED, pause=7, wide=2)
        side.fall()
        side.greet()
        for letter in (hello(side="a"), hello(side="a", reply=True), word(2, "ho", side="a")):
            side.take(letter)
        side.beat()
        self.same(inside(made.side("b")), inside(side))
        self.same(inside(made.side(name="b")), inside(side))
        self.assertEqual(made.side("b").store(), side.store())
        other = made.side("b")
        for letter in (word(9, "x", side="a"), word(3, "ha", side="a"), word(1, "hi", side="a"), own(4, "test", 3, side="a")):
            self.same(other.take(letter), side.take(letter))
            self.same(inside(other), inside(side))
        for _ in range(22):
            self.same(other.beat(), side.beat())
            self.same(inside(other), inside(side))

    def test_it_has_asked_where_that_one_has(self):
        made = world(*BOTH_ON, ("tell", "a", "hi"), ("tell", "a", "ho"), ("double", "a", 1), ("bring", "a", 1))
        self.same(made.side("b").take(word(3, "hi", side="a")), ("gap", ()))
        made.do(("bring", "a", 1))
        self.way(made, "b", own(1, "ask", 1, 0))
        self.same(made.side("b").take(word(3, "hi", side="a")), ("gap", ()))
        made = world(*BOTH_ON, ("tell", "a", "hi"), ("tell", "a", "ho"))
        self.same(made.side("b").take(word(3, "hi", side="a")), ("gap", (own(1, "ask", 1, 0),)))
        self.same(made.side("b").take(word(3, "hi", side="a")), ("gap", (own(1, "ask", 1, 0),)))

    def test_reset_as_that_one_was_opened(self):
        for reset in (True, False):
            made = world(("open", "a", reset))
            self.same(made.side("a").beat(), (hello(reset=reset, side="a"),))

    def test_no_side(self):
        made = world(*BOTH_ON, ("tell", "a", "hi"))
        for thing in strangers() + ("c", "A", "ab", True, 0, ("a",)):
            for tell in (made.side, made.under_way, made.words, made.heard):
                refused(self, NoSide, tell, thing)
                refused(self, NoSide, tell, name=thing)


class WordsAndHeard(WorldCase):
    def test_whatever_was_cut(self):
        made = world(*BOTH_ON, ("tell", "a", "one"), ("tell", "a", "two"), BRING_A, ("tell", "b", "yes"), BRING_B, ("fall",))
        words = ((0, 1, "one"), (0, 2, "two"))
        self.same((made.words("a"), made.heard("b")), (words, ((0, 1, "one", False),)))
        made.do(("cut", "a", 3))
        self.same(made.side("a").store().words(), ((1, "one"),))
        self.same((made.words("a"), made.heard("a")), (words, ((0, 1, "yes", False),)))
        self.same(made.side("a").store().heard(), ())
        made.do(("cut", "b", len(made.side("b").store().entries())))
        self.same(made.heard("b"), ((0, 1, "one", False),))
        self.same((made.side("b").store().heard(), made.side("b").heard()), ((), ((0, 1, "one", False),)))

    def test_a_number_may_come_twice(self):
        made = world(*BOTH_ON, ("tell", "a", "one"), ("fall",), ("cut", "a", 2), ("tell", "a", "two"), *BOTH_ON)
        self.same(made.words("a"), ((0, 1, "one"), (0, 1, "two")))
        made.do_all((BRING_A, ("fall",), ("cut", "b", 1), *BOTH_ON))
        self.same(made.heard("b"), ((0, 1, "two", False),))
        made = carried(made, beats=3)
        self.same(made.heard("b"), ((0, 1, "two", False), (0, 1, "two", True)))
        made.do(("crash", "b"))
        self.same(made.heard("b"), ((0, 1, "two", False), (0, 1, "two", True)))

    def test_whatever_fell_or_crashed(self):
        made = world(*BOTH_ON, ("tell", "a", "one"), BRING_A, ("crash", "b"), *BOTH_ON, ("tell", "a", "two"), BRING_A,
                     ("crash", "a"), ("crash", "b"),
                     *BOTH_ON, ("tell", "a", "three"), BRING_A, ("fall",))
        self.same(made.heard("b"), ((0, 1, "one", False), (0, 2, "two", False), (0, 3, "three", False)))
        self.same(made.words("a"), ((0, 1, "one"), (0, 2, "two"), (0, 3, "three")))
        self.same(made.side("b").heard(), ((0, 3, "three", False),))
        self.same((made.words("b"), made.heard("a")), ((), ()))

    def test_words_of_more_rounds(self):
        made = world(("tell", "a", "one"), *BOTH_ON, ("tell", "a", "two"), ("fall",), ("tell", "a", "three"),
                     ("open", "a", True), ("open", "b", True),
                     BRING_A, BRING_B, BRING_B)
        self.same(made.words("a"), ((0, 1, "one"), (0, 2, "two"), (1, 1, "three")))
        self.same(made.side("a").unsaid(), ((0, 1, "one"), (0, 2, "two")))
        made.do_all((("fall",), ("tell", "b", "yes"), ("tell", "b", "no"), *BOTH_ON))
        self.same(made.words("b"), ((1, 1, "yes"), (1, 2, "no")))
        made.do_all((("bring", "b", 0), ("bring", "b", 0)))
        self.same(made.heard("a"), ((1, 1, "yes", False), (1, 2, "no", False)))

    def test_they_are_what_the_stores_hold_without_cuts(self):
        for _, made in worlds(40, resets=True):
            for name in "ab":
                store = made.side(name).store()
                self.same(made.heard(name), store.heard())
                self.same(tuple([row[1:] for row in made.words(name) if row[0] == store.round()]), store.words())


class Alike(WorldCase):
    def test_where_deeds_and_makes_pause_and_wide_are(self):
        made = world(*BOTH_ON, ("tell", "a", "hi"))
        other = World()
        other.do_all(made.deeds())
        self.assertIs(made == other, True)
        self.assertIs(made != other, False)
        self.assertIs(World() == World(makes=(PLAIN, PLAIN), pause=5, wide=8), True)
        self.assertIs(made == world(*BOTH_ON), False)
        self.assertIs(world(*BOTH_ON) == made, False)
        self.assertIs(made == world(*BOTH_ON, ("tell", "a", "ho")), False)
        rules = ({}, {"makes": (WINDOWED, PLAIN)}, {"makes": (PLAIN, WINDOWED)}, {"makes": (WINDOWED, WINDOWED)},
                 {"pause": 6}, {"wide": 9})
        for at, rule in enumerate(rules):
            for beside, another in enumerate(rules):
                for deeds in ((), BOTH_ON):
                    self.assertIs(world(*deeds, **rule) == world(*deeds, **another), at == beside)
                    self.assertIs(world(*deeds, **rule) != world(*deeds, **another), at != beside)

    def test_by_deeds_alone_though_all_else_is_alike(self):
        self.assertIs(world(("fall",)) == World(), False)
        self.assertIs(world(("beat", "a")) == world(("beat", "b")), False)
        self.assertIs(world(("cut", "a", 0)) == World(), False)
        self.assertIs(world(("open", "a", False)) == world(("open", "a", True)), False)
        self.assertIs(world(("fall",), ("beat", "a")) == world(("beat", "a"), ("fall",)), False)

    def test_against_other_things(self):
        for made in (World(), world(*BOTH_ON), world(*BOTH_WAIT)):
            for thing in strangers() + (made.deeds(), list(made.deeds()), len(made), False, True, World, Store(), made.side("a")):
                self.assertIs(made.__eq__(thing), False)
                self.assertIs(made == thing, False)
                self.assertIs(made != thing, True)
            for thing in (None, (), [], 0, "", made.deeds(), len(made), Store()):
                self.assertIs(thing == made, False)

    def test_how_many_are_under_way(self):
        for deeds, many in (((), 0), (A_WAITS, 1), (BOTH_WAIT, 2), (BOTH_ON, 0), (BOTH_ON + (("tell", "b", "hi"),), 1),
                            (BOTH_ON + (("tell", "b", "hi"), ("double", "b", 0), ("tell", "a", "hi")), 3)):
            made = world(*deeds)
            self.same((len(made), bool(made)), (many, many > 0))

    def test_no_world(self):
        class Derived(World):
            pass

        need_world(World())
        for thing in strangers() + (World, Derived(), (), Side(Store(), "a"), Store()):
            refused(self, NoWorld, need_world, thing)


class AsTold(WorldCase):
    def test_what_was_told_stays(self):
        made = world(*BOTH_ON, ("tell", "a", "hi"), ("tell", "a", "ho"), BRING_A)
        told = [made.deeds()] + [tell(name) for name in "ab" for tell in (made.under_way, made.words, made.heard)]
        shown = repr(told)
        made.do_all((BRING_A, ("tell", "b", "ho"), ("fall",), ("crash", "b"), ("cut", "a", 1)))
        self.assertEqual(repr(told), shown)
        for rows in told:
            self.assertIs(type(rows), tuple)

    def test_what_is_handed_in_stays(self):
        deeds = BOTH_ON + (("tell", "a", "hi"),)
        shown = repr(deeds)
        made = World()
        made.do_all(deeds)
        made.do(BRING_A)
        self.assertEqual(repr(deeds), shown)
        things = [["fall"], [("fall",)]]
        refused(self, NoDeed, made.do, things[0])
        refused(self, NoDeed, made.do_all, things[1])
        self.assertEqual(things, [["fall"], [("fall",)]])

    def test_a_run_done_again_is_the_same(self):
        for _, made in worlds(20, resets=True, cuts=True):
            again = begun(made)
            again.do_all(made.deeds())
            self.same(stand(again), stand(made))
            self.assertEqual(again, made)


if __name__ == "__main__":
    unittest.main()
