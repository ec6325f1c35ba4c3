"""Points 19 and 20: a line that carries, what is due, and how many beats are."""

import random
import unittest

from gapfill.bounds import PAUSE, WINDOWED
from gapfill.carrying import beats_due, carried, due
from gapfill.errors import NoCount, NoWorld
from gapfill.sides import Side
from gapfill.stores import Store
from gapfill.worlds import World
from tests.runs import BOTH_ON, BOTH_WAIT, BRING_A, BRING_B, OPEN_A, OPEN_B, OTHER, begun, stand, wild, world, worlds
from tests.things import hello, refused, strangers, word

BEATS = (("beat", "a"), ("beat", "b"))
BOTH_RESET = (("open", "a", True), ("open", "b", True))


def tells(name, *texts):
    return tuple([("tell", name, text) for text in texts])


def due_by_hand(made):
    """What is due, by the words of point 19."""
    many = 0
    for name in "ab":
        store, other = made.side(name).store(), made.side(OTHER[name]).store()
        many += len(store.waiting())
        if store.round() == other.round():
            many += sum(number >= other.next_in() for number, _ in store.words())
        elif other.round() < store.round():
            many += len(store.words())
    return many


class CarryCase(unittest.TestCase):
    def same(self, told, awaited):
        self.assertEqual(repr(told), repr(awaited))

    def goes(self, made, *deeds, beats=1):
        """It goes on by these deeds, and stays itself as it was."""
        before = stand(made)
        told = carried(made, beats=beats)
        self.same(told.deeds(), made.deeds() + deeds)
        again = begun(made)
        again.do_all(made.deeds() + deeds)
        self.same(stand(told), stand(again))
        self.assertEqual(told, again)
        self.same(stand(made), before)
        return told


class Carried(CarryCase):
    def test_from_the_beginning(self):
        made = self.goes(World(), OPEN_A, OPEN_B, *BEATS, BRING_A, BRING_A, *[BRING_B] * 4)
        self.same((made.side("a").state(), made.side("b").state()), ("on", "on"))
        # b took two hellos and answered each; a took two hellos and two replies, and answered the hellos.
        self.same(made.under_way("a"), (hello(side="a", reply=True),) * 2)
        self.same(made.under_way("b"), ())
        self.goes(made, *BEATS, BRING_A, BRING_A)

    def test_words_that_are_told(self):
        made = carried(World(), beats=2)
        made.do_all(tells("a", "one") + tells("b", "two"))
        made = self.goes(made, *BEATS, BRING_A, BRING_B)
        self.same((made.heard("a"), made.heard("b")), (((0, 1, "two", False),), ((0, 1, "one", False),)))
        self.same(len(made), 0)

    def test_all_from_a_then_all_from_b_with_what_comes_of_it(self):
        made = world(*BOTH_ON, *tells("a", "one", "two"), *tells("b", "yes"), ("lose", "a", 0))
        # The ask that comes of it from b is brought, too; what comes of that from a stays under way.
        made = self.goes(made, *BEATS, BRING_A, BRING_B, BRING_B)
        self.same(made.under_way("a"), (word(1, "one", again=True, side="a"), word(2, "two", again=True, side="a")))
        made = self.goes(made, *BEATS, BRING_A, BRING_A, BRING_B)
        self.same(made.heard("b"), ((0, 1, "one", False), (0, 2, "two", False)))

    def test_each_side_off(self):
        self.goes(world(*BOTH_ON, ("close", "b"), BRING_B), OPEN_A, OPEN_B, *BEATS, BRING_A, BRING_A, *[BRING_B] * 4)
        # b, off, makes a fall as it opens: so a is opened behind it.
        made = world(*BOTH_ON, ("close", "b"))
        self.goes(made, OPEN_B, OPEN_A, *BEATS, BRING_A, BRING_A, *[BRING_B] * 4)
        # a, off, makes b fall, which opens then.
        made = world(*BOTH_ON, ("close", "a"))
        self.goes(made, OPEN_A, OPEN_B, *BEATS, BRING_A, BRING_A, *[BRING_B] * 4)
        # a is off and opens, b waits: none falls.
        made = world(OPEN_B)
        self.goes(made, OPEN_A, *BEATS, BRING_A, BRING_A, *[BRING_B] * 4)
        # b is off and opens, a waits: none falls.
        self.goes(world(OPEN_A), OPEN_B, *BEATS, BRING_A, BRING_A, *[BRING_B] * 4)

    def test_a_is_opened_twice(self):
        # b is off, a letter of it is under way: a opens, b makes it fall, a opens again.
        made = world(OPEN_B, ("beat", "b"), OPEN_A, ("close", "b"), ("close", "a"))
        self.same([made.side(name).state() for name in "ab"], ["off", "off"])
        told = self.goes(made, OPEN_A, OPEN_B, *BEATS, BRING_A, BRING_A, *[BRING_B] * 4)
        self.same(told.side("a").state(), "on")
        # Nothing falls ahead of a, as b waits; but it has a hello under way once b has fallen.
        made = world(*BOTH_WAIT, ("close", "b"))
        self.same([made.side(name).state() for name in "ab"], ["waits", "off"])
        self.goes(made, OPEN_B, OPEN_A, *BEATS, BRING_A, BRING_A, *[BRING_B] * 4)

    def test_sides_that_wait(self):
        self.goes(world(*BOTH_WAIT), *BEATS, BRING_A, BRING_A, *[BRING_B] * 4)
        # One waits, the other one is on.
        made = world(*BOTH_WAIT, BRING_A, ("lose", "b", 0), ("lose", "b", 0))
        made = self.goes(made, *BEATS, BRING_A, BRING_B)
        self.same([made.side(name).state() for name in "ab"], ["on", "on"])

    def test_sides_that_fall_again_within_a_beat(self):
        made = world(*BOTH_ON, *[("beat", "a")] * (3 * PAUSE - 1))
        # All falls behind the beat of a: the beat of b is one of a side that is off.
        made = self.goes(made, *BEATS)
        self.same([made.side(name).state() for name in "ab"], ["off", "off"])
        self.same(made.side("b").trace()[-1], (("beat",), ()))
        made = world(*BOTH_ON, *[("beat", "b")] * (3 * PAUSE - 1))
        made = self.goes(made, *BEATS)
        self.same([made.side(name).state() for name in "ab"], ["off", "off"])
        self.goes(made, OPEN_A, OPEN_B, *BEATS, BRING_A, BRING_A, *[BRING_B] * 4)

    def test_a_bye_under_way(self):
        # The opening of a makes all fall, what is under way too.
        made = world(*BOTH_ON, *tells("a", "hi"), ("close", "a"), ("double", "a", 0))
        self.goes(made, OPEN_A, OPEN_B, *BEATS, BRING_A, BRING_A, *[BRING_B] * 4)
        made = world(*BOTH_ON, ("close", "b"), *tells("a", "hi"))
        made = self.goes(made, OPEN_B, OPEN_A, *BEATS, BRING_A, BRING_A, *[BRING_B] * 4)
        self.same([made.side(name).state() for name in "ab"], ["on", "on"])

    def test_not_reset(self):
        made = carried(world(("open", "a", True), ("fall",)))
        self.same([deed for deed in made.deeds() if deed[0] == "open"], [("open", "a", True), OPEN_A, OPEN_B])
        # Sides that were opened to reset stay so.
        made = carried(world(*BOTH_RESET))
        self.same([made.side(name).store().round() for name in "ab"], [1, 1])

    def test_many_beats(self):
        for made in (World(), world(*BOTH_ON, *tells("a", "hi"), ("lose", "a", 0)),
                     world(OPEN_B, *tells("b", "hi"), makes=(WINDOWED, WINDOWED), wide=1)):
            self.goes(made, beats=0)
            self.assertIsNot(carried(made, beats=0), made)
            one_by_one = made
            for beats in range(1, 41):
                one_by_one = carried(one_by_one)
                told = carried(made, beats=beats)
                self.assertEqual(told, one_by_one)
                self.same(stand(told), stand(one_by_one))
            self.same(stand(carried(made)), stand(carried(made, beats=1)))
            self.assertEqual(carried(carried(made, beats=150), beats=50), carried(made, beats=200))

    def test_the_world_stays(self):
        for _, made in worlds(20, resets=True, cuts=True):
            before = stand(made)
            told = carried(made, beats=3)
            self.same(stand(made), before)
            told.do_all((("fall",), ("tell", "a", "hi"), ("crash", "b")))
            self.same(stand(made), before)
            other = carried(made, beats=0)
            shown = stand(other)
            made.do_all((("tell", "a", "hi"), ("fall",)))
            self.same(stand(other), shown)

    def test_by_deeds(self):
        for _, made in worlds(20, resets=True, cuts=True):
            told = carried(made, beats=4)
            self.assertEqual(told.deeds()[:len(made.deeds())], made.deeds())
            again = begun(made)
            again.do_all(told.deeds())
            self.same(stand(again), stand(told))

    def test_no_world(self):
        for thing in strangers() + (World, Side(Store(), "a"), Store(), (), None):
            refused(self, NoWorld, carried, thing)
            refused(self, NoWorld, carried, world=thing, beats=None)
            refused(self, NoWorld, carried, beats=201, world=thing)
            refused(self, NoWorld, due, thing)
            refused(self, NoWorld, due, world=thing)
            refused(self, NoWorld, beats_due, thing)
            refused(self, NoWorld, beats_due, world=thing)

    def test_no_count(self):
        made = world(*BOTH_ON)
        before = stand(made)
        for thing in strangers() + (-1, 201, 202, 10 ** 40, True, False, "1", (1,)):
            refused(self, NoCount, carried, made, beats=thing)
            refused(self, NoCount, carried, beats=thing, world=made)
        self.same(stand(made), before)
        self.assertRaises(TypeError, carried, made, 1)


class Due(CarryCase):
    def is_due(self, many, *deeds, **rule):
        made = world(*deeds, **rule)
        before = stand(made)
        self.same(due(made), many)
        self.same(due(world=made), many)
        self.same(due_by_hand(made), many)
        self.same(stand(made), before)

    def test_words_that_wait(self):
        self.is_due(0)
        self.is_due(0, *BOTH_WAIT)
        self.is_due(0, *BOTH_ON)
        self.is_due(1, *tells("a", "one"))
        self.is_due(5, *tells("a", "one", "two"), *tells("b", "one", "two", "three"))
        self.is_due(2, *BOTH_WAIT, *tells("a", "one", "two"))

    def test_words_of_alike_rounds(self):
        three = BOTH_ON + tells("a", "one", "two", "three")
        self.is_due(3, *three)
        self.is_due(2, *three, BRING_A)
        self.is_due(3, *three, ("bring", "a", 1), ("bring", "a", 1))
        self.is_due(0, *three, BRING_A, BRING_A, BRING_A)
        self.is_due(3, *three, ("fall",))
        self.is_due(1, *three, BRING_A, BRING_A, ("fall",))
        self.is_due(4, *three, BRING_A, ("fall",), *tells("a", "four"), *tells("b", "five"))
        self.is_due(3, *BOTH_ON, *tells("b", "one", "two", "three"))
        # Own letters and words that are heard are none.
        self.is_due(0, *BOTH_ON, *[("beat", "a")] * PAUSE)

    def test_words_heard_and_lost_by_a_cut(self):
        heard = BOTH_ON + tells("a", "one", "two") + (BRING_A, BRING_A, ("fall",))
        self.is_due(0, *heard)
        self.is_due(1, *heard, ("cut", "b", 1))
        self.is_due(2, *heard, ("cut", "b", 2))
        # A word that waits again counts, though its number was heard.
        self.is_due(1, *heard, ("cut", "a", 1))
        self.is_due(2, *heard, ("cut", "a", 1), ("cut", "b", 2))

    def test_all_where_the_other_s_round_is_less(self):
        # b takes the hello of a and puts a round; a waits, in the elder one.
        ahead = tells("b", "one") + BOTH_RESET + (BRING_A,)
        made = world(*ahead)
        self.same([made.side(name).store().round() for name in "ab"], [0, 1])
        self.is_due(1, *ahead)
        self.is_due(3, *ahead, *tells("b", "two", "three"))
        self.is_due(3, *ahead, *tells("b", "two", "three"), ("fall",))
        # The number that the other one awaits in the elder round doesn't count.
        heard = BOTH_ON + tells("b", "two", "three") + (BRING_B, BRING_B, ("fall",))
        self.is_due(0, *heard)
        self.same(world(*heard, *ahead).side("a").store().next_in(), 3)
        self.is_due(1, *heard, *ahead)
        self.is_due(2, *heard, *ahead, *tells("b", "four"))

    def test_none_where_it_is_more(self):
        # a numbered words in round 0, which b, in round 1, no more awaits.
        deeds = BOTH_ON + tells("a", "one", "two") + (("fall",),) + BOTH_RESET
        self.is_due(2, *deeds)
        self.is_due(0, *deeds, BRING_A)
        self.is_due(1, *deeds, BRING_A, *tells("a", "three"))
        made = world(*deeds, BRING_A, BRING_B)
        self.same(made.side("a").unsaid(), ((0, 1, "one"), (0, 2, "two")))
        self.same(due(made), 0)

    def test_none_is_asked_for_of_those_below_the_awaited_number(self):
        # Numbers that b awaits go on beyond what a, which lost its end, has.
        deeds = BOTH_ON + tells("a", "one", "two") + (BRING_A, BRING_A, ("fall",), ("cut", "a", 2))
        self.is_due(0, *deeds)
        self.is_due(1, *deeds, *tells("a", "three"))

    def test_in_runs(self):
        many = 0
        for resets in (False, True):
            for _, made in worlds(60, resets=resets, cuts=True):
                self.same(due(made), due_by_hand(made))
                rounds = {made.side(name).store().round() for name in "ab"}
                many += len(rounds) > 1 and due(made) > 0
        self.assertGreater(many, 3)


class BeatsDue(CarryCase):
    def within(self, beats, *deeds, **rule):
        """So many beats are due; they fall with each beat, and at nought nothing is due."""
        made = world(*deeds, **rule)
        before = stand(made)
        self.same(beats_due(made), beats)
        self.same(beats_due(world=made), beats)
        self.same(stand(made), before)
        self.falls(made)

    def falls(self, made):
        left = beats_due(made)
        while left > 0:
            self.assertGreater(due(made), 0)
            made = carried(made)
            self.assertLess(beats_due(made), left)
            left = beats_due(made)
        self.same(due(made), 0)

    def test_where_nothing_is_due(self):
        for deeds in ((), BOTH_WAIT, BOTH_ON, BOTH_ON + (("beat", "a"),) * (3 * PAUSE - 1),
                      BOTH_ON + (("beat", "a"),) * (3 * PAUSE - 2), (OPEN_A,)):
            self.within(0, *deeds)

    def test_a_side_that_falls_in_its_next_beat(self):
        for pause in (3, 5, 9):
            for name in "ab":
                quiet = (("beat", name),) * (3 * pause - 1)
                self.within(pause + 7, *BOTH_ON, *tells("a", "hi"), *quiet, pause=pause)
                self.within(pause + 7, *BOTH_ON, *quiet, *tells("b", "hi"), pause=pause)
                self.within(pause + 7, *BOTH_WAIT, *quiet, *tells("b", "hi"), pause=pause)
        # Whatever is under way to it, and whatever the other one is.
        self.within(PAUSE + 7, OPEN_A, *(("beat", "a"),) * (3 * PAUSE - 1), *tells("b", "hi"))
        self.within(PAUSE + 7, *BOTH_ON, *(("beat", "a"),) * (3 * PAUSE - 1), *tells("b", "hi"),
                    *(("beat", "b"),) * (3 * PAUSE - 2))
        self.within(PAUSE + 7, *BOTH_ON, *(("beat", "b"),) * (3 * PAUSE - 1), *tells("b", "hi"),
                    *(("beat", "a"),) * (3 * PAUSE - 2))

    def test_quiet_of_a_side_that_is_off_does_not_count(self):
        for many in (3 * PAUSE - 1, 3 * PAUSE - 2):
            made = BOTH_WAIT + (("beat", "b"),) * many + (("close", "b"), ("fall",)) + tells("a", "hi")
            self.same(world(*made).side("b").quiet(), many)
            self.within(PAUSE + 6, *made)
            made = BOTH_WAIT + (("beat", "a"),) * many + (("close", "a"),) + tells("a", "hi")
            self.within(PAUSE + 6, *made)

    def test_a_side_that_falls_in_the_beat_after_it_with_nothing_under_way_to_it(self):
        for pause in (3, 5, 9):
            for name in "ab":
                quiet = (("beat", name),) * (3 * pause - 2)
                self.within(pause + 8, *BOTH_ON, *quiet, *tells(name, "hi"), pause=pause)
        self.within(PAUSE + 8, OPEN_A, *(("beat", "a"),) * (3 * PAUSE - 2), *tells("b", "hi"))
        self.within(PAUSE + 8, OPEN_B, *(("beat", "b"),) * (3 * PAUSE - 2), *tells("b", "hi"))

    def test_not_where_something_is_under_way_to_it(self):
        for name in "ab":
            quiet = (("beat", name),) * (3 * PAUSE - 2)
            self.within(1, *BOTH_ON, *quiet, *tells(OTHER[name], "hi"))
            self.within(PAUSE + 8, *BOTH_ON, *quiet, *tells(OTHER[name], "hi"), ("lose", OTHER[name], 0))
        # A hello of a, the only one, isn't any more under way to b, which waits.
        deeds = BOTH_WAIT + (("beat", "b"),) * (3 * PAUSE - 2) + tells("b", "hi")
        self.within(PAUSE + 5, *deeds)
        self.within(PAUSE + 8, *deeds, ("lose", "a", 0))

    def test_where_not_both_are_on(self):
        word_told = tells("a", "hi")
        self.within(PAUSE + 5, *word_told, *BOTH_WAIT)
        self.within(PAUSE + 6, *word_told)
        self.within(PAUSE + 6, *word_told, OPEN_A)
        self.within(PAUSE + 6, *word_told, OPEN_B)
        for name in "ab":
            self.within(PAUSE + 6, *word_told, *BOTH_WAIT, ("lose", name, 0))
        self.within(PAUSE + 6, *word_told, *BOTH_WAIT, ("lose", "a", 0), ("lose", "b", 0))
        # One waits, the other one is on.
        self.within(PAUSE + 5, *word_told, *BOTH_WAIT, BRING_A)
        self.within(PAUSE + 5, *word_told, *BOTH_WAIT, BRING_A, ("lose", "b", 0))
        self.within(PAUSE + 6, *word_told, *BOTH_WAIT, BRING_A, ("lose", "b", 0), ("lose", "b", 0))
        self.within(PAUSE + 5, *word_told, *BOTH_WAIT, BRING_B)
        self.within(PAUSE + 6, *word_told, *BOTH_WAIT, BRING_B, *(("lose", "a", 0),) * 3)
        # Off, and a hello under way to it.
        self.within(PAUSE + 6, *word_told, *BOTH_WAIT, ("close", "b"))
        # A letter that is no hello is none.
        self.within(PAUSE + 6, *BOTH_WAIT, BRING_A, *tells("b", "hi"), ("lose", "b", 0), ("lose", "b", 0))
        self.within(PAUSE + 6, *word_told, *BOTH_ON, ("close", "b"))
        for pause in (3, 12):
            self.within(pause + 5, *word_told, *BOTH_WAIT, pause=pause)
            self.within(pause + 6, *word_told, pause=pause)

    def test_where_all_under_way_is_enough(self):
        three = BOTH_ON + tells("a", "one", "two", "three")
        self.within(1, *three)
        self.within(1, *three, ("double", "a", 1))
        self.within(1, *three, BRING_A)
        self.within(1, *BOTH_ON, *tells("b", "one"))
        self.within(1, *three, *tells("b", "one"))
        # A window keeps what begins beyond.
        turned = three + (("double", "a", 0), ("lose", "a", 0))
        self.within(1, *turned, makes=(WINDOWED, WINDOWED))
        self.within(4, *turned)

    def test_where_the_greatest_seen_isn_t_below_the_awaited_number(self):
        gap = BOTH_ON + tells("a", "one", "two") + (("lose", "a", 0), BRING_A)
        self.within(3, *gap)
        self.within(3, *gap, ("lose", "b", 0))
        self.within(3, *BOTH_ON, *tells("b", "one", "two"), ("lose", "b", 0), BRING_B)
        # Seen by a hello alone.
        made = BOTH_ON + tells("a", "one") + (("fall",),) + BOTH_ON
        self.same(world(*made).side("b").seen(), 1)
        self.within(3, *made)
        # The answer is under way.
        self.within(1, *gap, BRING_B)

    def test_where_it_wouldn_t_be_these_brought_in_turn(self):
        for name in "ab":
            lost = BOTH_ON + tells(name, "one", "two") + (("lose", name, 0),)
            self.within(4, *lost)
            self.within(4, *lost, *(("beat", name),) * (PAUSE - 1))
        self.within(4, *BOTH_ON, *tells("a", "one"), ("lose", "a", 0), *(("beat", "a"),) * PAUSE)

    def test_else_by_the_sender_s_idle(self):
        for pause in (3, 5, 9):
            for name in "ab":
                lost = BOTH_ON + tells(name, "one") + (("lose", name, 0),)
                for idle in range(pause):
                    self.within(pause + 4 - idle, *lost, *(("beat", name),) * idle, pause=pause)
                    # The beats of the other one don't count, but for what it sends.
                    self.within(pause + 4 - idle, *lost, *(("beat", name),) * idle, *(("beat", OTHER[name]),) * (pause - 1),
                                pause=pause)

    def test_the_greater_of_both_ways(self):
        lost = tells("a", "one") + (("lose", "a", 0),)
        self.within(PAUSE + 4, *BOTH_ON, *lost, *tells("b", "two"))
        self.within(PAUSE + 2, *BOTH_ON, *lost, ("beat", "a"), ("beat", "a"), *tells("b", "two", "three"), ("lose", "b", 0))
        self.within(4, *BOTH_ON, *tells("a", "one", "two"), ("lose", "a", 0), *tells("b", "two"))
        self.within(4, *BOTH_ON, *tells("b", "one", "two"), ("lose", "b", 0), *tells("a", "two"))
        # A way that is heard to its end doesn't count, whatever its receiver has seen.
        self.within(1, *BOTH_ON, *tells("a", "one"), *(("beat", "b"),) * PAUSE, ("lose", "b", 0))

    def test_in_runs(self):
        met = set()
        for resets, cuts in ((False, False), (True, False), (True, True)):
            for _, made in worlds(120, resets=resets, cuts=cuts):
                left = beats_due(made)
                met.add(left if left < 5 else left - made.pause() + 100)
                self.assertLessEqual(left, made.pause() + 8)
                self.assertIs(left == 0, due(made) == 0)
                self.falls(made)
        self.assertLessEqual({0, 1, 3, 4, 105, 106, 107, 108}, met)

    def test_in_runs_from_a_line_that_carried(self):
        for run in range(150):
            chance = random.Random(run)
            made = carried(World(makes=(chance.choice(("plain", WINDOWED)), chance.choice(("plain", WINDOWED))),
                                 pause=chance.choice((3, 4, 8))), beats=2)
            for _ in range(4):
                wild(chance, made, resets=True, steps=6, loss=0.8)
                self.falls(made)
                made = carried(made, beats=chance.randrange(3))


if __name__ == "__main__":
    unittest.main()
