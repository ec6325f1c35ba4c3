"""Point 25: the desk."""

import unittest

from gapfill.bounds import PLAIN, WINDOWED
from gapfill.carrying import beats_due, carried, due
from gapfill.desk import Desk
from gapfill.errors import Busy, NoCount, NoDeed, NoMake, NoPause, NoPlace, NoRow, NoRows, NoSide, NoWide
from gapfill.lettertexts import show_letter
from gapfill.worlds import World
from tests.runs import OTHER, begun, stand, worlds
from tests.things import refused, strangers

ON = ("open a", "open b", "bring a 0", "bring b 0", "bring a 0", "bring b 0")
ROWS = ("tell a hi", "open a", "reset a", "close a", "beat a", "bring a 0", "lose a 0", "double a 0", "fall", "crash a",
        "cut a 0", "carry 0",
        "state a", "due", "beats", "heard a", "way a", "missing a", "unsaid a", "parts")
HELLO_A = "from=a|number=0|again=no|hello=0,0,1,0,no,no|length=44|sum=747"


def at_work(*rows, **rule):
    """A desk at which these rows were said."""
    desk = Desk(**rule)
    for row in rows:
        desk.say(row)
    return desk


def world_of(desk):
    """The desk's world: the one thing in it that is one."""
    return [value for value in vars(desk).values() if type(value) is World][0]


def row_of(deed):
    """A deed as the desk has it."""
    if deed[0] == "open":
        return f"{'reset' if deed[2] else 'open'} {deed[1]}"
    return " ".join(str(part) for part in deed)


class DeskCase(unittest.TestCase):
    def says(self, desk, row, told):
        self.assertEqual(repr(desk.say(row)), repr(told))
        self.assertEqual(repr(at_work().say(row="due")), "'0'")

    def goes(self, rows, row, *deeds):
        """The row tells ok, and its world goes on by these deeds."""
        desk = at_work(*rows)
        before = world_of(desk).deeds()
        self.says(desk, row, "ok")
        again = World()
        again.do_all(before + deeds)
        self.assertEqual(stand(world_of(desk)), stand(again))

    def not_said(self, refusal, desk, row):
        before = stand(world_of(desk))
        error = refused(self, refusal, desk.say, row)
        refused(self, refusal, desk.say, row=row)
        self.assertEqual(stand(world_of(desk)), before)
        return error


class Made(DeskCase):
    def test_a_world_of_this_rule(self):
        for rule in ({}, {"makes": (WINDOWED, PLAIN)}, {"pause": 9}, {"wide": 3},
                     {"makes": (PLAIN, WINDOWED), "pause": 60, "wide": 99}):
            self.assertEqual(world_of(Desk(**rule)), World(**rule))
        self.assertEqual(world_of(Desk()), World(makes=("plain", "plain"), pause=5, wide=8))

    def test_refused_as_the_world(self):
        for thing in strangers() + (PLAIN, [PLAIN, PLAIN], (PLAIN,), (PLAIN, "x")):
            refused(self, NoMake, Desk, wide=0, pause=0, makes=thing)
        for thing in strangers() + (2, 61, True):
            refused(self, NoPause, Desk, wide=0, pause=thing)
        for thing in strangers() + (0, 100, True):
            refused(self, NoWide, Desk, wide=thing)
        self.assertRaises(TypeError, Desk, (PLAIN, PLAIN))

    def test_methods_stand_in_the_class_itself(self):
        for name in ("__init__", "say"):
            self.assertIn(name, vars(Desk))
        self.assertEqual(Desk.__module__, "gapfill.desk")


class Deeds(DeskCase):
    def test_tell(self):
        self.goes((), "tell a hi", ("tell", "a", "hi"))
        self.goes(ON, "tell b hi", ("tell", "b", "hi"))
        self.goes(ON, "tell a one two 3 four", ("tell", "a", "one two 3 four"))
        self.goes(ON, "tell a 7", ("tell", "a", "7"))
        self.goes(ON, "tell b b b", ("tell", "b", "b b"))
        self.goes(ON, "tell a " + "a" * 20, ("tell", "a", "a" * 20))

    def test_open_and_reset(self):
        for rows in ((), ("open b",), ("tell a hi", "open a", "close a")):
            self.goes(rows, "open a", ("open", "a", False))
            self.goes(rows, "reset a", ("open", "a", True))
        self.goes(("open a",), "open b", ("open", "b", False))

    def test_close_beat_fall_and_crash(self):
        for rows in ((), ("open a",), ON):
            for name in "ab":
                for word in ("close", "beat", "crash"):
                    self.goes(rows, f"{word} {name}", (word, name))
            self.goes(rows, "fall", ("fall",))

    def test_bring_lose_and_double(self):
        rows = ON + tuple([f"tell b word {number}" for number in range(12)])
        for word in ("bring", "lose", "double"):
            for at in (0, 1, 9, 10, 11):
                self.goes(rows, f"{word} b {at}", (word, "b", at))

    def test_cut(self):
        rows = ON + ("tell a one", "tell a two", "fall")
        for many in range(5):
            self.goes(rows, f"cut a {many}", ("cut", "a", many))

    def test_carry(self):
        for rows in ((), ("tell a hi",), ON + ("tell a hi", "tell a ho", "lose a 0")):
            for beats in (0, 1, 2, 10, 200):
                desk = at_work(*rows)
                world = world_of(desk)
                shown = stand(world)
                self.says(desk, f"carry {beats}", "ok")
                self.assertEqual(stand(world_of(desk)), stand(carried(world, beats=beats)))
                self.assertEqual(stand(world), shown)


class Told(DeskCase):
    def test_state(self):
        for rows, a, b in (((), "off", "off"), (("open a",), "waits", "off"), (("open a", "open b"), "waits", "waits"),
                           (ON, "on", "on")):
            desk = at_work(*rows)
            self.says(desk, "state a", a)
            self.says(desk, "state b", b)

    def test_due_and_beats(self):
        desk = at_work()
        self.says(desk, "due", "0")
        self.says(desk, "beats", "0")
        desk = at_work(*[f"tell a word {number}" for number in range(12)])
        self.says(desk, "due", "12")
        self.says(desk, "beats", "11")
        self.says(at_work("tell a hi", pause=60), "beats", "66")
        self.says(at_work(*ON, "tell a hi"), "beats", "1")

    def test_heard(self):
        desk = at_work(*ON)
        self.says(desk, "heard a", "none")
        self.says(desk, "heard b", "none")
        for row in ("tell a one", "tell a two 2", "beat a", "tell a three", "bring a 0", "bring a 0"):
            desk.say(row)
        self.says(desk, "heard b", "0:1:one, 0:2:two 2")
        self.says(desk, "heard a", "none")

    def test_heard_in_doubt_and_ever(self):
        desk = at_work(*ON, "tell a one", "bring a 0", "fall", "cut b 1", "tell a two", *ON, "carry 6")
        self.says(desk, "heard b", "0:1:one, 0:1:one?, 0:2:two?")
        desk.say("crash b")
        self.says(desk, "heard b", "0:1:one, 0:1:one?, 0:2:two?")
        desk = at_work("reset a", "reset b", "carry 1", "tell b hi", "carry 1")
        self.says(desk, "heard a", "1:1:hi")

    def test_way(self):
        desk = at_work("open a")
        self.says(desk, "way a", HELLO_A)
        self.says(desk, "way b", "none")
        desk.say("double a 0")
        self.says(desk, "way a", f"{HELLO_A}; {HELLO_A}")
        desk = at_work(*ON, "tell a hi", "tell a ho 2", "close a")
        self.says(desk, "way a", "; ".join([show_letter(letter) for letter in world_of(desk).under_way("a")]))
        self.assertEqual(desk.say("way a").count("; "), 2)
        self.assertIn("word=ho 2", desk.say("way a"))
        self.says(desk, "way b", "none")

    def test_missing(self):
        desk = at_work(*ON, "tell a one", "tell a two", "bring a 0", "bring a 0", "fall", "cut a 2")
        self.says(desk, "missing a", "none")
        desk.say("carry 1")
        self.says(desk, "missing a", "0:2:2")
        self.says(desk, "missing b", "none")
        for row in ("tell a three", "tell a four", "carry 1", "fall", "cut a 4", "carry 1"):
            desk.say(row)
        self.says(desk, "missing a", "0:2:2, 0:3:4")
        desk.say("crash a")
        self.says(desk, "missing a", "none")

    def test_unsaid(self):
        desk = at_work("tell b zero", *ON, "tell b one", "tell b two 2", "fall")
        self.says(desk, "unsaid b", "none")
        for row in ("reset a", "reset b", "carry 1"):
            desk.say(row)
        self.says(desk, "unsaid b", "0:1:zero, 0:2:one, 0:3:two 2")
        self.says(desk, "unsaid a", "none")
        desk.say("crash b")
        self.says(desk, "unsaid b", "none")

    def test_parts(self):
        self.says(at_work(), "parts", "none")
        self.says(at_work(*ON, "tell a one", "bring a 0"), "parts", "none")
        self.says(at_work(*ON, "tell a one"), "parts", "none")

    def parting(self, name, *behind):
        """Rows behind which a word of this side has lost its number to a beat, and a later one is heard."""
        rows = ON + behind + ("tell {0} one", "fall", "cut {0} 2") + ON + ("beat {0}",) * 5 + ("tell {0} two", "bring {0} 0",
                                                                                               "bring {0} 0")
        return [row.format(name) for row in rows]

    def test_parts_of_books_that_part(self):
        for name in "ab":
            desk = at_work(*self.parting(name))
            self.says(desk, f"heard {OTHER[name]}", "0:2:two")
            self.says(desk, "parts", f"{name} 0 1")
            desk = at_work("reset a", "reset b", "carry 1", "fall", *self.parting(name))
            self.says(desk, "parts", f"{name} 1 1")
            # What the other one heard counts, though it was made anew, and cut.
            desk = at_work(*self.parting(name), f"crash {OTHER[name]}", f"cut {OTHER[name]} 1")
            self.says(desk, "parts", f"{name} 0 1")

    def test_parts_of_a_ahead_of_b(self):
        rows = self.parting("a") + ["fall"]
        self.says(at_work(*rows, *self.parting("b")), "parts", "a 0 1")
        rows = self.parting("b") + ["fall"]
        self.says(at_work(*rows, *self.parting("a")), "parts", "a 0 1")

    def test_no_rows(self):
        # A number comes twice: told of a first, and of b where a's words don't part.
        twice = ON + ("tell {0} one", "fall", "cut {0} 1") + ON
        for name in "ab":
            desk = at_work(*[row.format(name) for row in twice])
            self.assertEqual(self.not_said(NoRows, desk, "parts").at, 1)
        self.says(at_work(*self.parting("a"), "fall", *[row.format("b") for row in twice]), "parts", "a 0 1")
        desk = at_work(*self.parting("b"), "fall", *[row.format("a") for row in twice])
        self.not_said(NoRows, desk, "parts")

    def test_parts_in_runs(self):
        found = set()
        for _, world in worlds(250, cuts=True, resets=True, parts=2):
            desk = Desk()
            setattr(desk, [name for name, value in vars(desk).items() if type(value) is World][0], world)
            told = "none"
            for name in "ba":
                words, heard = world.words(name), world.heard(OTHER[name])
                if any(one[:2] >= other[:2] for rows in (words, heard) for one, other in zip(rows, rows[1:])):
                    told = None
                    continue
                texts = {row[:2]: row[2] for row in words}
                places = [row[:2] for row in heard if texts.get(row[:2]) != row[2]]
                places += [row[:2] for row in words if row[:2] not in [one[:2] for one in heard]
                           and [one for one in heard if one[0] == row[0] and one[1] > row[1]]]
                if places:
                    told = f"{name} {min(places)[0]} {min(places)[1]}"
            found.add(told[0] if told else None)
            if told is None:
                self.not_said(NoRows, desk, "parts")
            else:
                self.says(desk, "parts", told)
        self.assertLessEqual({"n", None}, found)

    def test_questions_change_nothing(self):
        for rows in ((), ("open a",), ON + ("tell a hi",)):
            desk = at_work(*rows)
            before = stand(world_of(desk))
            for row in ROWS[12:]:
                self.assertIs(type(desk.say(row)), str)
            self.assertEqual(stand(world_of(desk)), before)

    def test_runs_by_rows(self):
        for _, world in worlds(40, resets=True, cuts=True, parts=1):
            desk = Desk(makes=world._makes, pause=world.pause(), wide=world._wide)
            for deed in world.deeds():
                self.assertEqual(desk.say(row_of(deed)), "ok")
            self.assertEqual(stand(world_of(desk)), stand(world))
            again = begun(world)
            again.do_all(world.deeds())
            self.says(desk, "due", str(due(world)))
            self.says(desk, "beats", str(beats_due(world)))
            for name in "ab":
                heard = [f"{turn}:{number}:{text}{'?' if doubt else ''}" for turn, number, text, doubt in world.heard(name)]
                self.says(desk, f"heard {name}", ", ".join(heard) or "none")
                way = [show_letter(letter) for letter in world.under_way(name)]
                self.says(desk, f"way {name}", "; ".join(way) or "none")
                for word, rows in (("missing", world.side(name).missing()), ("unsaid", world.side(name).unsaid())):
                    self.says(desk, f"{word} {name}", ", ".join(["%s:%s:%s" % row for row in rows]) or "none")


class NoRowAtAll(DeskCase):
    def no_row(self, row):
        for desk in (Desk(), at_work(*ON, "tell a hi")):
            self.not_said(NoRow, desk, row)

    def test_no_text(self):
        for thing in [thing for thing in strangers() if type(thing) is not str] + [("due",), ["due"], b"due", 0, True]:
            self.no_row(thing)

    def test_another_word(self):
        for row in ("", "A", "Due", "dues", "greet a", "open_a", "word a hi", "tella hi", "take a", "ok", "none", "due,",
                    "due\n", "carry\t1", "close\na",
                    "OPEN a", "round", "say due"):
            self.no_row(row)

    def test_another_number_of_words(self):
        for row in ROWS:
            words = row.split(" ")
            for many in range(1, len(words)):
                self.no_row(" ".join(words[:many]))
            if words[0] != "tell":
                for more in ("a", "0", "a 0", "0 0 0"):
                    self.no_row(f"{row} {more}")
        self.no_row("tell a")
        self.no_row("tell")

    def test_an_empty_word(self):
        for row in ROWS + ("tell a hi ho",):
            for at in [at for at, sign in enumerate(row) if sign == " "]:
                self.no_row(row[:at] + " " + row[at:])
            self.no_row(row + " ")
            self.no_row(" " + row)
        for row in (" ", "  ", "tell a ", "tell  a", "open ", "tell a  "):
            self.no_row(row)

    def test_numbers_that_are_not_so_written(self):
        for text in ("00", "01", "007", "-1", "-0", "+1", "1_0", "1.0", "0x1", "a", "one", "1a", "\u0661", "\u00b2", "1,0",
                     "no", "0" * 5000, "0" + "9" * 5000,
                     "9" * 5000 + "x", "-" + "9" * 5000):
            for row in ("bring a", "lose a", "double b", "cut a", "carry"):
                self.no_row(f"{row} {text}")

    def test_numbers_ahead_of_the_world(self):
        self.no_row("bring c 01")
        self.no_row("cut c x")
        self.no_row("tell c")


class RefusedAsTheWorld(DeskCase):
    def test_no_deed(self):
        desk = at_work(*ON, "tell a hi")
        for name in ("c", "A", "ab", "0", "a\n", "a,"):
            for row in ("tell {} hi", "open {}", "reset {}", "close {}", "beat {}", "bring {} 0", "lose {} 0", "double {} 0",
                        "crash {}", "cut {} 0"):
                self.not_said(NoDeed, desk, row.format(name))
        for text in ("Hi", "a" * 21, "a,b", "hi!", "a\nb", "\u0661"):
            self.not_said(NoDeed, desk, f"tell a {text}")
        self.not_said(NoDeed, desk, "tell a " + " ".join(["ab"] * 8))

    def test_no_side(self):
        desk = at_work(*ON, "tell a hi")
        for name in ("c", "A", "ab", "0", "a\n"):
            for word in ("state", "heard", "way", "missing", "unsaid"):
                self.not_said(NoSide, desk, f"{word} {name}")

    def test_busy(self):
        for rows in (("open a",), ON):
            for row in ("open a", "reset a", "cut a 0", "cut a 99"):
                self.not_said(Busy, at_work(*rows), row)

    def test_no_place(self):
        desk = at_work(*ON, "tell a hi", "tell a ho")
        for word in ("bring", "lose", "double"):
            for at in (2, 3, 10, 99999, 10 ** 30):
                self.assertEqual(self.not_said(NoPlace, desk, f"{word} a {at}").at, at)
            self.assertEqual(self.not_said(NoPlace, desk, f"{word} b 0").at, 0)

    def test_no_count(self):
        desk = at_work(*ON, "tell a hi", "fall")
        for many in (3, 4, 99999, 10 ** 30):
            self.not_said(NoCount, desk, f"cut a {many}")
        for beats in (201, 202, 1000, 10 ** 30):
            self.not_said(NoCount, desk, f"carry {beats}")

    def test_numbers_of_thousands_of_figures(self):
        desk = at_work("tell a hi")
        for text in ("9" * 4299, "9" * 4300, "9" * 4301, "1" + "0" * 4300, "9" * 4900, "1" * 4900):
            for name in "ab":
                self.not_said(NoCount, desk, f"cut {name} {text}")
                for word in ("bring", "lose", "double"):
                    error = self.not_said(NoPlace, desk, f"{word} {name} {text}")
                    self.assertIs(type(error.at), int)
                    self.assertEqual(error.at % 10 ** 50, int(text[-50:]))
                    self.assertGreater(error.at, 10 ** (len(text) - 1) - 1)
                    self.assertLess(error.at, 10 ** len(text))
                    self.assertIs(type(str(error)), str)
                    self.assertIs(type(repr(error)), str)
            self.not_said(NoCount, desk, f"carry {text}")
            self.not_said(Busy, at_work(*ON), f"cut a {text}")
            self.not_said(NoPlace, at_work(*ON, "tell a hi"), f"bring a {text}")


if __name__ == "__main__":
    unittest.main()
