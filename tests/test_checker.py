"""Point 23: the checker takes a claim with its right paper, and no other one."""

import ast
import pathlib
import random
import unittest

from gapfill.answers import answered
from gapfill.bounds import PLAIN, WINDOWED
from gapfill.checker import holds
from gapfill.errors import GapError, NoTrace
from gapfill.sides import Side
from gapfill.stores import Store
from gapfill.traces import replayed
from tests.runs import OTHER, some_letter, wild_sides, worlds
from tests.test_books import WORDS, by_hand, rises, told
from tests.test_stores import ALL, stored
from tests.test_traces import played
from tests.things import bye, fill, hello, in_place_of, own, put_otherwise, strangers, ten_deep, word

PACKAGE = pathlib.Path(__file__).parent.parent / "gapfill"
RULE = ("a", PLAIN, 5, 8)
WINDOW = ("b", WINDOWED, 3, 3)


def trace_of(rule):
    name, make, pause, wide = rule
    return played(name, make=make, pause=pause, wide=wide).trace()


def claims():
    """A claim of each kind with its right paper, and some of several."""
    odd = trace_of(RULE)[:4] + ((("beat",), None),)
    yield ("kept", RULE, trace_of(RULE)), None
    yield ("kept", WINDOW, trace_of(WINDOW)), None
    yield ("kept", RULE, ()), None
    yield ("breaks", RULE, odd, 4), None
    yield ("breaks", WINDOW, trace_of(WINDOW)[:4] + trace_of(WINDOW)[5:12] + trace_of(WINDOW)[13:], 11), None
    yield ("agree", WORDS, told(*WORDS[:4])), None
    yield ("agree", (), ()), None
    yield ("parts", WORDS, told(*WORDS[1:]), 0, 1), None
    yield ("parts", WORDS, told(*WORDS[:3], (2, 1, "x")), 2, 1), None
    yield ("filled", ALL, "a", 1, 0), answered(stored(*ALL), "a", 1, 0)
    yield ("filled", ALL[:8], "b", 2, 7), answered(stored(*ALL[:8]), "b", 2, 7)
    yield ("filled", (), "b", 1, 0), ()
    yield ("awaits", ALL, 1, 5), None
    yield ("awaits", (), 0, 1), None


class CheckCase(unittest.TestCase):
    def taken(self, claim, paper=None):
        self.assertIs(holds(claim, paper), True)
        self.assertIs(holds(paper=paper, claim=claim), True)

    def left(self, claim, paper=None):
        self.assertIs(holds(claim, paper), False)


class AnyClaim(CheckCase):
    def test_each_kind_with_its_right_paper(self):
        for claim, paper in claims():
            self.taken(claim, paper)

    def test_things_of_any_kind(self):
        right = [claim for claim, _ in claims()]
        for thing in strangers() + (True, "kept", ["kept", RULE, ()], list(right[0]), RULE, ("Kept", RULE, ()),
                                    (b"kept", RULE, ())):
            for paper in strangers() + (None,):
                self.left(thing, paper)

    def test_another_paper(self):
        for claim, paper in claims():
            for thing in strangers() + (True, False, 0, claim, list(paper or ()), (None,), "none"):
                if thing is not None and repr(thing) != repr(paper):
                    self.left(claim, thing)
            if paper is not None:
                self.left(claim, None)

    def test_another_word(self):
        words = ("kept", "breaks", "agree", "parts", "filled", "awaits")
        for claim, paper in claims():
            for thing in strangers() + words + ("Kept", "keeps", "", "none", True, 0):
                if not (type(thing) is str and thing == claim[0]):
                    self.left((thing,) + claim[1:], paper)
                    self.left((thing,) + claim[1:], None)

    def test_parts_more_or_less(self):
        for claim, paper in claims():
            self.left(claim[1:], paper)
            for at in range(1, len(claim)):
                self.left(claim[:at] + claim[at + 1:], paper)
                self.left(claim[:at], paper)
                self.left(claim[:at] + claim[at:at + 1] + claim[at:], paper)
            for more in (None, 0, (), paper):
                self.left(claim + (more,), paper)
            self.left(list(claim), paper)
            self.left((claim,), paper)
            self.left((claim, paper), None)

    def test_a_part_of_another_kind(self):
        for claim, paper in claims():
            for at in range(1, len(claim)):
                for thing in in_place_of(claim[at]):
                    if repr(thing) != repr(claim[at]):
                        other = claim[:at] + (thing,) + claim[at + 1:]
                        # With some rows left out it may be right again; so may an ask for other numbers.
                        if type(thing) is type(claim[at]) is tuple or (type(thing) is int and claim[0] == "filled"):
                            self.assertIs(type(holds(other, paper)), bool)
                        else:
                            self.left(other, paper)

    def test_ten_deep(self):
        deep = ten_deep()
        for claim, paper in claims():
            for at in range(1, len(claim)):
                self.assertIs(type(holds(claim[:at] + (deep,) + claim[at + 1:], paper)), bool)
            self.left(claim, deep)

    def test_what_is_handed_in_stays(self):
        for claim, paper in claims():
            shown = repr((claim, paper))
            holds(claim, paper)
            self.assertEqual(repr((claim, paper)), shown)


class Traces(CheckCase):
    def test_rules(self):
        for rule in (("a", PLAIN, 3, 1), ("b", WINDOWED, 60, 99), ("b", PLAIN, 59, 98), ("a", WINDOWED, 4, 2)):
            self.taken(("kept", rule, ()))
            self.taken(("kept", rule, trace_of(rule)))
            self.taken(("breaks", rule, trace_of(rule) + (None,), len(trace_of(rule))))
            for thing in put_otherwise(rule):
                right = self.is_rule(thing)
                self.assertIs(holds(("kept", thing, ()), None), right)
                self.assertIs(holds(("breaks", thing, (7,), 0), None), right)
        for pause, wide in ((2, 8), (61, 8), (5, 0), (5, 100), (True, 8), (5, True), ("5", 8), (5, None), (10 ** 40, 8)):
            self.left(("kept", ("a", PLAIN, pause, wide), ()))
            self.left(("breaks", ("a", PLAIN, pause, wide), (7,), 0))

    def is_rule(self, thing):
        """Whether it was put otherwise into another right rule."""
        if type(thing) is not tuple or len(thing) != 4:
            return False
        name, make, pause, wide = thing
        try:
            Side(Store(), name, make=make, pause=pause, wide=wide)
        except GapError:
            return False
        return True

    def test_another_rule(self):
        trace = trace_of(WINDOW)
        for rule in (("a",) + WINDOW[1:], ("b", PLAIN, 3, 3), ("b", WINDOWED, 4, 3), ("b", WINDOWED, 3, 2)):
            self.left(("kept", rule, trace))

    def test_breaks_at_its_number_alone(self):
        trace = trace_of(RULE)
        for at in (0, 1, 7, len(trace) - 1, len(trace)):
            broken = trace[:at] + (((("beat",), (bye(),))),) + trace[at:]
            for number in range(-1, len(broken) + 1):
                claim = ("breaks", RULE, broken, number)
                self.taken(claim) if number == at else self.left(claim)
            self.left(("kept", RULE, broken))
            for thing in (None, False, True, str(at), (at,), 10 ** 40):
                if not (thing is at):
                    self.left(("breaks", RULE, broken, thing))
        for number in (None, 0, 1, len(trace), -1):
            self.left(("breaks", RULE, trace, number))
        self.left(("breaks", RULE, ((None),), False))
        self.left(("breaks", RULE, ((("beat",), ()), None), True))
        self.taken(("breaks", RULE, ((("beat",), ()), None), 1))

    def test_no_trace(self):
        for thing in [thing for thing in strangers() if type(thing) is not tuple] + [list(trace_of(RULE)), [], None]:
            self.left(("kept", RULE, thing))
            self.left(("breaks", RULE, thing, 0))
            self.left(("breaks", RULE, thing, None))

    def test_rows_put_otherwise(self):
        for rule in (RULE, WINDOW):
            trace = trace_of(rule)
            for at in range(len(trace)):
                deed, letters = trace[at]
                things = [None, list(trace[at]), (list(deed), letters), (deed, list(letters)), (deed,), trace[at] + ((),),
                          (deed, letters + (bye(),)), ((), letters)]
                things += [(deed, letters[1:])] * (len(letters) > 0) + [(deed, letters[::-1])] * (len(letters) > 1)
                for thing in things:
                    other = trace[:at] + (thing,) + trace[at + 1:]
                    self.left(("kept", rule, other))
                    self.taken(("breaks", rule, other, at))
                    self.left(("breaks", rule, other, at + 1))

    def test_letters_put_otherwise(self):
        trace = trace_of(RULE)
        for at, (deed, letters) in enumerate(trace[:16]):
            for place, letter in list(enumerate(letters))[-1:]:
                for thing in put_otherwise(letter):
                    row = (deed, letters[:place] + (thing,) + letters[place + 1:])
                    self.left(("kept", RULE, trace[:at] + (row,)))
                    self.taken(("breaks", RULE, trace[:at] + (row,), at))
        for letter in (word(1, "hi"), hello(), fill(1, 3), own(2, "ask", 1, 0)):
            for thing in put_otherwise(letter):
                self.taken(("breaks", RULE, ((("take", thing), ()),), 0))

    def test_letters_at_their_bounds(self):
        letters = (word(9999, "a" * 20), word(1, " ", again=True), own(1, "beat", 0), own(9999, "beat", 9999),
                   own(1, "test", 1), own(9999, "test", 9999),
                   own(1, "ask", 1, 0), own(1, "ask", 9999, 0), own(1, "ask", 9999, 9999), own(1, "ask", 5, 5), fill(1, 2),
                   fill(9999, 10000), fill(1, 10000),
                   hello(999, 9999, 10000, 10000), hello(0, 0, 1, 0), bye())
        self.taken(("kept", RULE, tuple([(("take", letter), ()) for letter in letters])))
        none = (word(0, "a"), word(10000, "a"), word(1, "a" * 21), word(1, ""), own(1, "beat", -1), own(1, "beat", 10000),
                own(1, "test", 0), own(1, "test", 10000),
                own(1, "ask", 0, 0), own(1, "ask", 10000, 0), own(1, "ask", 5, 4), own(1, "ask", 5, 10000), fill(2, 2),
                fill(1, 1), fill(1, 10001), fill(0, 2),
                hello(1000), hello(0, 10000), hello(0, 0, 10001), hello(0, 0, 0), hello(0, 0, 1, 10001), hello(0, 0, 1, -1),
                ("b", 1, False, ("bye",)),
                ("b", 0, True, ("bye",)), ("b", 1, False, hello()[3]), ("b", 0, True, hello()[3]),
                ("b", 1, False, ("fill", 3)), ("b", 1, True, ("beat", 0)),
                ("b", 1, True, ("ask", 1, 0)), ("b", 1, True, ("test", 1)), ("c", 0, False, ("bye",)), own(0, "beat", 0),
                ("b", 0, False, ("bye", 0)))
        for letter in none:
            self.taken(("breaks", RULE, ((("take", letter), ()),), 0))

    def test_what_can_t_be_done(self):
        opened = (("open", True), (hello(side="a", reset=True),))
        self.taken(("kept", RULE, (opened, (("close",), (bye("a"),)), opened)))
        self.taken(("breaks", RULE, (opened, opened), 1))
        self.left(("kept", RULE, (opened, opened)))
        self.taken(("breaks", RULE, (opened, (("open", True), ())), 1))
        self.taken(("breaks", RULE, (opened, (("open", True), None)), 1))

    def test_beats_at_each_stage(self):
        for rule in (RULE, WINDOW, ("a", PLAIN, 60, 1)):
            name, make, pause, wide = rule
            side = Side(Store(), name, make=make, pause=pause, wide=wide)
            for deed in (side.fall, side.greet, side.close, side.greet):
                deed()
                for _ in range(3 * pause + 2):
                    side.beat()
            side.fall()
            side.greet()
            side.take(hello(side=OTHER[name]))
            for _ in range(3 * pause + 2):
                side.beat()
            self.taken(("kept", rule, side.trace()))
            for at, (deed, letters) in enumerate(side.trace()):
                if deed == ("beat",):
                    other = letters[1:] if letters else ((name, 1, False, ("beat", 0)),)
                    self.taken(("breaks", rule, side.trace()[:at] + ((deed, other),), at))

    def test_hellos_of_each_round(self):
        for rule in (RULE, WINDOW):
            name, make, pause, wide = rule
            side = Side(Store(), name, make=make, pause=pause, wide=wide)
            for turn in range(1, 5):
                side.greet(reset=turn < 3)
                side.take(hello(turn, side=OTHER[name]))
                side.tell("hi")
                side.fall()
            self.assertEqual(side.store().round(), 4)
            for turn in range(9):
                for reply in (True, False):
                    side.greet()
                    # The first comes where it waits; so does the second, if both are apart, else it is on.
                    for top in (3, 1):
                        side.take(hello(turn, top, 3, 2, reply=reply, side=OTHER[name]))
                        side.beat()
                    side.fall()
                    self.taken(("kept", rule, side.trace()))
                    side = replayed(side.trace()[:-6], name, make=make, pause=pause, wide=wide)

    def test_all_that_sides_meet(self):
        for side, name, rule in wild_sides(400):
            whole = (name, rule["make"], rule["pause"], rule["wide"])
            self.taken(("kept", whole, side.trace()))
            self.left(("breaks", whole, side.trace(), len(side.trace())))

    def test_whatever_it_takes_of_a_trace_is_so(self):
        chance = random.Random(23)
        kept, broken = 0, 0
        for side, name, rule in wild_sides(400, steps=40):
            whole = (name, rule["make"], rule["pause"], rule["wide"])
            trace = list(side.trace())
            at = chance.randrange(len(trace))
            step = chance.randrange(4)
            if step == 0:
                del trace[at]
            elif step == 1:
                trace.insert(at, trace[chance.randrange(len(trace))])
            elif step == 2:
                trace[at] = (("take", some_letter(chance, side, OTHER[name])), trace[at][1])
            else:
                trace[at] = (trace[at][0], trace[chance.randrange(len(trace))][1])
            try:
                replayed(tuple(trace), name, **rule)
                self.taken(("kept", whole, tuple(trace)))
                kept += 1
            except NoTrace as error:
                self.left(("kept", whole, tuple(trace)))
                for number in (error.at - 1, error.at + 1, 0 if error.at else 1):
                    self.left(("breaks", whole, tuple(trace), number))
                self.taken(("breaks", whole, tuple(trace), error.at))
                broken += 1
        self.assertGreater(min(kept, broken), 50)


class Books(CheckCase):
    def test_some_books(self):
        chance = random.Random(3)
        for _ in range(1500):
            words, heard = [], []
            for turn in range(2):
                for number in range(1, 4):
                    if chance.random() < 0.6:
                        words.append((turn, number, chance.choice("ab")))
                    if chance.random() < 0.5:
                        near = words[-1] if words and words[-1][:2] == (turn, number) and chance.random() < 0.9 else (turn,
                                                                                                                      number, "a")
                        heard.append(near + (chance.random() < 0.5,))
            words, heard = tuple(words), tuple(heard)
            place = by_hand(words, heard)
            agree = ("agree", words, heard)
            self.taken(agree) if place is None else self.left(agree)
            for turn in range(3):
                for number in range(5):
                    claim = ("parts", words, heard, turn, number)
                    self.taken(claim) if (turn, number) == place else self.left(claim)

    def test_places_put_otherwise(self):
        right = ("parts", ((0, 1, "a"),), ((0, 1, "b", False),), 0, 1)
        self.taken(right)
        for turn, number in ((False, 1), (0, True), (False, True), ("0", 1), (0, "1"), (None, 1), (0, None), (1, 0), (-1, 1),
                             (0, 10 ** 40), ((0,), 1)):
            self.left(right[:3] + (turn, number))
        self.left(right[:3] + ((0, 1),))
        self.left(right[:3] + (None,))
        self.left(("parts", (), (), None, None))
        self.left(("parts", (), (), 0, 0))
        self.left(("parts", (), (), 0, 1))

    def test_rows_at_their_bounds(self):
        words = ((0, 1, "a"), (0, 9999, "z 9"), (999, 1, " "), (999, 9999, "a" * 20))
        self.taken(("agree", words, told(*words)))
        self.taken(("parts", words, told(*words[:3], (999, 9999, "b")), 999, 9999))
        for row in ((-1, 1, "a"), (1000, 1, "a"), (0, 0, "a"), (9, 0, "a"), (0, 10000, "a"), (0, 1, ""), (0, 1, "a" * 21),
                    (0, 1, "A"), (False, 1, "a"), (0, True, "a"),
                    (0, 1, None), (0, 1), (0, 1, "a", False, False), [0, 1, "a"], (10 ** 40, 1, "a"), None, 7, "row"):
            self.left(("agree", (row,), ()))
            if type(row) is tuple and len(row) == 3:
                self.left(("parts", (), (row + (False,),), row[0], row[1]))
                self.left(("agree", (row,), (row + (False,),)))
        for row in ((0, 1, "a", 0), (0, 1, "a", 1), (0, 1, "a", None), (0, 1, "a", "no"), (0, 1, "a"),
                    (0, 1, "a", False, False), [0, 1, "a", False]):
            self.left(("agree", ((0, 1, "a"),), (row,)))
            self.left(("parts", (), (row,), 0, 1))

    def test_rows_that_do_not_rise(self):
        for words, heard in (((WORDS[0], WORDS[0]), ()), ((), told(WORDS[0], WORDS[0])), ((WORDS[1], WORDS[0]), ()),
                             (WORDS, told(WORDS[1], WORDS[0])),
                             ((WORDS[4], WORDS[0]), ()), (WORDS, told(WORDS[4], WORDS[0])), (((1, 1, "a"), (0, 9, "b")), ())):
            self.left(("agree", words, heard))
            for turn in range(3):
                for number in range(10):
                    self.left(("parts", words, heard, turn, number))

    def test_no_tuples(self):
        for thing in [thing for thing in strangers() if type(thing) is not tuple] + [list(WORDS), []]:
            self.left(("agree", thing, ()))
            self.left(("agree", WORDS, thing))
            self.left(("parts", thing, told((0, 1, "x")), 0, 1))

    def test_books_of_worlds(self):
        for _, world in worlds(60, resets=True, cuts=True):
            for name in "ab":
                words, heard = world.words(name), world.heard(OTHER[name])
                place = by_hand(words, heard) if rises(words) and rises(heard) else "none"
                self.assertIs(holds(("agree", words, heard), None), place is None)


class Stores(CheckCase):
    def test_filled_of_each_ask(self):
        for entries in (ALL, ALL[:8], ALL[:11], ()):
            store = stored(*entries)
            for name in "ab":
                for first in (1, 2, 3, 4, 8, 9, 10, 9999):
                    for last in (0, first, first + 1, 9999):
                        if last < 10000:
                            letters = answered(store, name, first, last)
                            self.taken(("filled", entries, name, first, last), letters)
                            for other in (letters + (bye(name),), letters[1:] if letters else None, list(letters),
                                          letters[::-1] if len(letters) > 1 else 0):
                                self.left(("filled", entries, name, first, last), other)

    def test_papers_put_otherwise(self):
        for entries, first, last in ((ALL, 1, 0), (ALL[:8], 2, 7)):
            letters = answered(stored(*entries), "a", first, last)
            for at, letter in enumerate(letters):
                for thing in put_otherwise(letter):
                    self.left(("filled", entries, "a", first, last), letters[:at] + (thing,) + letters[at + 1:])
            self.left(("filled", entries, "b", first, last), letters)

    def test_no_ask(self):
        for first, last in ((0, 0), (-1, 0), (10000, 0), (2, 1), (1, 10000), (1, -1), (True, 0), (1, True), (1, False),
                            ("1", 0), (1, None), (10 ** 40, 0)):
            self.left(("filled", (), "a", first, last), ())
        for thing in strangers() + ("c", True):
            self.left(("filled", (), thing, 1, 0), ())
            self.left(("filled", (), "a", thing, 0), ())
            self.left(("filled", (), "a", 1, thing), ())

    def test_entries_that_can_t_be_put(self):
        bad = (None, (), ("word",), ("own", 1), ["own"], ("skip", 1), ("skip", True), ("skip", 10001), ("got", 1),
               ("got", 10001), ("round", 2), ("round", 0), ("lost", 0),
               ("heard", "x", 0), ("heard", "x"), ("heard", "X", True), ("tell", ""), ("tell", "a" * 21), ("tell",),
               ("cut", 1), ("Own",), ("round", True), "own", ten_deep())
        for thing in bad + strangers():
            self.left(("awaits", (thing,), 0, 1))
            self.left(("filled", (thing,), "a", 1, 0), ())
            self.left(("awaits", (("lost",), thing), 0, 1))
            self.left(("awaits", (thing, ("lost",)), 0, 1))
        for thing in [thing for thing in strangers() if type(thing) is not tuple] + [[], list(ALL)]:
            self.left(("awaits", thing, 0, 1))
            self.left(("awaits", thing, 1, 5))
            self.left(("filled", thing, "a", 1, 0), ())
        self.taken(("awaits", (("skip", 10000), ("got", 10000), ("round", 10000), ("tell", "a" * 20)), 1, 1))

    def test_entries_put_otherwise(self):
        for at, entry in enumerate(ALL):
            for thing in put_otherwise(entry):
                entries = ALL[:at] + (thing,) + ALL[at + 1:]
                try:
                    store = stored(*entries)
                    self.taken(("awaits", entries, store.round(), store.next_in()))
                except ValueError:
                    self.left(("awaits", entries, 1, 5))

    def test_awaits(self):
        for many in range(len(ALL) + 1):
            store = stored(*ALL[:many])
            for turn in range(-1, 3):
                for number in range(0, 8):
                    claim = ("awaits", ALL[:many], turn, number)
                    self.taken(claim) if (turn, number) == (store.round(), store.next_in()) else self.left(claim)
        for turn, number in ((False, 1), (0, True), (None, 1), ("0", 1), (0, "1"), ((0,), 1), (0, (1,))):
            self.left(("awaits", (), turn, number))

    def test_stores_of_worlds(self):
        for _, world in worlds(60, resets=True, cuts=True):
            for name in "ab":
                store = world.side(name).store()
                self.taken(("awaits", store.entries(), store.round(), store.next_in()))
                self.left(("awaits", store.entries(), store.round(), store.next_in() + 1))
                self.left(("awaits", store.entries(), store.round() + 1, store.next_in()))
                self.taken(("filled", store.entries(), name, 1, 0), answered(store, name, 1, 0))


class Parts(unittest.TestCase):
    def test_it_imports_nothing_but_its_own_parts(self):
        mine = sorted(path.stem for path in PACKAGE.glob("checker*.py"))
        self.assertIn("checker", mine)
        for stem in mine:
            tree = ast.parse((PACKAGE / f"{stem}.py").read_text(encoding="utf-8"))
            for node in ast.walk(tree):
                self.assertNotIsInstance(node, ast.Import)
                if isinstance(node, ast.ImportFrom):
                    self.assertIn(node.module, [f"gapfill.{part}" for part in mine], stem)

    def test_nothing_else_imports_its_parts(self):
        for path in PACKAGE.rglob("*.py"):
            if not path.stem.startswith("checker"):
                self.assertNotIn("checker_", path.read_text(encoding="utf-8"))

    def test_it_stands_in_its_own_file(self):
        self.assertEqual(holds.__module__, "gapfill.checker")


if __name__ == "__main__":
    unittest.main()
