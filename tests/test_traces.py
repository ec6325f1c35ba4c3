"""Point 22: traces, done again."""

import unittest

from gapfill.bounds import PAUSE, PLAIN, WIDE, WINDOWED
from gapfill.errors import NoMake, NoPause, NoSide, NoTrace, NoWide
from gapfill.sides import Side
from gapfill.stores import Store
from gapfill.traces import replayed
from tests.benches import inside
from tests.runs import OTHER, wild_sides, worlds
from tests.things import bye, fill, hello, own, put_otherwise, refused, strangers, word


def played(name="a", **rule):
    """A side that met each deed, and much that a side can tell."""
    side, other = Side(Store(), name, **rule), OTHER[name]
    side.beat()
    side.fall()
    side.close()
    side.tell("one")
    side.take(word(3, "hi", side=other))
    side.greet(reset=True)
    side.beat()
    side.tell("two")
    for letter in (word(3, "hi", side=other), hello(9, side=other), hello(reset=True, side=other), word(3, "hi", side=name),
                   own(1, "test", 5, side=other),
                   own(4, "ask", 1, 0, side=other), word(2, "two", side=other), word(2, "two", side=other),
                   fill(3, 9, side=other)):
        side.take(letter)
    side.tell("three")
    for _ in range(12):
        side.beat()
    side.fall()
    side.greet()
    side.close()
    return side


class TraceCase(unittest.TestCase):
    def without_log(self, side):
        # A text that can't be read stands in the log alone.
        return {name: value for name, value in inside(side).items() if name != "_log"}

    def done_again(self, side, name, **rule):
        told = replayed(side.trace(), name, **rule)
        self.assertIs(type(told), Side)
        self.assertEqual(self.without_log(told), self.without_log(side))
        self.assertEqual(told.store(), side.store())
        self.assertIsNot(told.store(), side.store())

    def breaks(self, at, trace, name="a", **rule):
        self.assertEqual(repr(refused(self, NoTrace, replayed, trace, name, **rule).at), repr(at))
        self.assertEqual(repr(refused(self, NoTrace, replayed, name=name, trace=trace, **rule).at), repr(at))


class DoneAgain(TraceCase):
    def test_both_makes(self):
        for name in "ab":
            for rule in ({}, {"make": WINDOWED}, {"make": WINDOWED, "wide": 2}, {"pause": 3},
                         {"make": PLAIN, "pause": PAUSE, "wide": WIDE}):
                side = played(name, **rule)
                self.done_again(side, name, **rule)
                told = [row[0][0] for row in side.trace()]
                self.assertEqual(set(told), {"open", "tell", "take", "beat", "fall", "close"})

    def test_nothing_done(self):
        told = replayed((), "b")
        self.assertEqual(inside(told), inside(Side(Store(), "b")))
        self.assertEqual(told.beat(), ())
        self.assertEqual(told.greet(), (hello(),))

    def test_it_goes_on(self):
        side = played()
        told = replayed(side.trace(), "a")
        for one in (side, told):
            one.greet()
            one.take(hello(1, 5, 3))
            one.tell("four")
        self.assertEqual(inside(told), inside(side))
        self.done_again(told, "a")

    def test_each_beginning(self):
        trace = played(make=WINDOWED).trace()
        for many in range(len(trace) + 1):
            self.assertEqual(replayed(trace[:many], "a", make=WINDOWED).trace(), trace[:many])

    def test_texts_that_were_read(self):
        side = Side(Store(), "a")
        side.greet()
        side.take_text("from=b|number=0|again=no|hello=0,0,1,0,no,no|length=44|sum=753")
        side.take_text("nothing")
        self.assertEqual(side.state(), "on")
        self.done_again(side, "a")

    def test_sides_that_met_this_and_that(self):
        words = set()
        for side, name, rule in wild_sides(300):
            self.done_again(side, name, **rule)
            words.update(side.log())
        self.assertEqual(words, {"side", "off", "bye", "hello", "apart", "early", "low", "word", "own", "gap"})

    def test_sides_of_worlds(self):
        for _, world in worlds(60, resets=True):
            for name, make in zip("ab", world._makes):
                side = world.side(name)
                if ("crash", name) not in world.deeds():
                    self.done_again(side, name, make=make, pause=world._pause, wide=world._wide)

    def test_the_trace_stays(self):
        trace = played().trace()
        shown = repr(trace)
        told = replayed(trace, "a")
        told.beat()
        self.assertEqual(repr(trace), shown)

    def test_names_behind_the_star(self):
        self.assertRaises(TypeError, replayed, (), "a", PLAIN)


class Broken(TraceCase):
    def test_rows_that_are_none(self):
        trace = played().trace()
        for at in range(0, len(trace), 4):
            deed, told = trace[at]
            for thing in strangers() + (list(trace[at]), (deed,), (deed, told, ()), (told, deed), deed, (list(deed), told),
                                        (deed, list(told))):
                self.breaks(at, trace[:at] + (thing,) + trace[at + 1:])
            for thing in strangers():
                self.breaks(at, trace[:at] + ((thing, told),) + trace[at + 1:])
                if type(thing) is not tuple or thing != told:
                    self.breaks(at, trace[:at] + ((deed, thing),) + trace[at + 1:])

    def test_deeds_that_are_none(self):
        for deed in (("greet",), ("open",), ("open", 0), ("open", 1), ("open", None), ("open", True, True), ("tell",),
                     ("tell", ""), ("tell", "A"), ("tell", 7),
                     ("tell", "a", "b"), ("take",), ("take", None), ("take", ("b", 0, False, ("bye",), 7)),
                     ("take", ["b", 0, False, ("bye",)]),
                     ("take", bye(), bye()), ("take", ("b", False, False, ("bye",))), ("beat", 1), ("beat", None),
                     ("fall", "a"), ("close", False), ("bye",), ("cut", 0),
                     ("take_text", ""), ["beat"], "beat", (), ("Beat",)):
            self.breaks(0, ((deed, ()),))
            self.breaks(1, ((("beat",), ()), (deed, ()), None))
        for letter in (word(1, "hi"), hello(), fill(1, 3), own(2, "ask", 1, 0)):
            for thing in put_otherwise(letter):
                self.breaks(0, ((("take", thing), ()),))

    def test_what_can_t_be_done(self):
        opened = (("open", False), (hello(side="a"),))
        replayed((opened, (("fall",), ()), opened), "a")
        self.breaks(1, (opened, opened))
        self.breaks(1, (opened, (("open", False), ())))
        self.breaks(2, (opened, (("beat",), (hello(side="a"),)), (("open", True), (hello(reset=True, side="a"),))))

    def test_a_row_put_otherwise_left_out_or_twice(self):
        side = played()
        trace = side.trace()
        opening = [at for at, row in enumerate(trace) if row[0][0] == "open"][0]
        self.breaks(opening, trace[:opening] + ((("open", False), trace[opening][1]),) + trace[opening + 1:])
        self.breaks(opening + 1, trace[:opening + 1] + trace[opening:])
        self.breaks(opening, trace[:opening] + trace[opening + 1:])
        found = 0
        for at in range(len(trace)):
            for other in (trace[:at] + trace[at + 1:], trace[:at] + trace[at:at + 1] + trace[at:]):
                try:
                    replayed(other, "a")
                except NoTrace as error:
                    self.assertGreaterEqual(error.at, at)
                    self.breaks(error.at, other[:error.at + 1])
                    replayed(other[:error.at], "a")
                    found += 1
        self.assertGreater(found, 10)

    def test_other_letters_told(self):
        for rule in ({}, {"make": WINDOWED, "wide": 3}):
            trace = played(**rule).trace()
            many = 0
            for at, (deed, told) in enumerate(trace):
                others = [told + (bye("a"),), (bye("a"),) + told, told + told + (None,), None, list(told)]
                others += [told[:-1]] * (len(told) > 0) + [told[::-1]] * (len(told) > 1)
                for other in others:
                    self.breaks(at, trace[:at] + ((deed, other),) + trace[at + 1:], **rule)
                many += len(told)
            self.assertGreater(many, 15)

    def test_one_thing_in_them_put_otherwise(self):
        trace = played().trace()
        for at, (deed, told) in enumerate(trace):
            for place, letter in list(enumerate(told))[:1]:
                for thing in put_otherwise(letter):
                    row = (deed, told[:place] + (thing,) + told[place + 1:])
                    self.assertEqual(refused(self, NoTrace, replayed, trace[:at] + (row,), "a").at, at)

    def test_truths_and_numbers_in_them(self):
        opened = ("a", 0, False, ("hello", 0, 0, 1, 0, False, False))
        replayed(((("open", False), (opened,)),), "a")
        for other in (("a", False, False, opened[3]), ("a", 0, 0, opened[3]),
                      opened[:3] + (("hello", False, 0, 1, 0, False, False),),
                      opened[:3] + (("hello", 0, 0, True, 0, False, False),), opened[:3] + (("hello", 0, 0, 1, 0, 0, False),),
                      opened[:3] + (("hello", 0, 0, 1, 0, False, 0),), opened[:3] + (["hello", 0, 0, 1, 0, False, False],),
                      list(opened)):
            self.breaks(0, ((("open", False), (other,)),))

    def test_another_rule(self):
        trace = played(make=WINDOWED, pause=4, wide=3).trace()
        replayed(trace, "a", make=WINDOWED, pause=4, wide=3)
        for name, rule in (("a", {"pause": 4, "wide": 3}), ("a", {"make": WINDOWED, "wide": 3}),
                           ("b", {"make": WINDOWED, "pause": 4, "wide": 3}),
                           ("a", {"make": WINDOWED, "pause": 4, "wide": 2})):
            self.assertIn(refused(self, NoTrace, replayed, trace, name, **rule).at, range(len(trace)))

    def test_over_a_store_that_was_not_new(self):
        store = Store()
        store.put(("own",))
        side = Side(store, "a")
        side.beat()
        side.greet()
        self.breaks(1, side.trace())


class Refused(TraceCase):
    def test_no_tuple(self):
        for thing in [thing for thing in strangers() if type(thing) is not tuple] + [list(played().trace()),
                                                                                     Side(Store(), "a"), "beat", iter(())]:
            self.breaks(None, thing)
            self.breaks(None, thing, name=None, make=None, pause=None, wide=None)

    def test_from_the_left(self):
        odd = (None,)
        for thing in strangers() + ("c", True, 0):
            refused(self, NoSide, replayed, odd, thing)
            refused(self, NoSide, replayed, wide=0, pause=0, make=None, name=thing, trace=odd)
        for thing in strangers() + ("Plain", True):
            refused(self, NoMake, replayed, odd, "a", make=thing, pause=0, wide=0)
        for thing in strangers() + (2, 61, True):
            refused(self, NoPause, replayed, odd, "a", pause=thing, wide=0)
        for thing in strangers() + (0, 100, True):
            refused(self, NoWide, replayed, odd, "a", wide=thing)
        self.breaks(0, odd)


if __name__ == "__main__":
    unittest.main()
