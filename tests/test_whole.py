"""Point 3: what holds in every run of a World, tried out in many."""

import random
import unittest

from gapfill.books import parted
from gapfill.carrying import beats_due, carried, due
from gapfill.checker import holds
from gapfill.errors import NoRows
from gapfill.lettertexts import read_letter, show_letter
from gapfill.papers import paper_awaits, paper_books, paper_filled, paper_trace
from gapfill.stores import Store
from gapfill.storetexts import read_store
from gapfill.worlds import World
from tests.runs import MAKES, OTHER, all_unsaid, of_round, wild, worlds

RUNS = 160


class Whole(unittest.TestCase):
    def each_once_in_turn(self, run, world):
        for name in "ab":
            store = world.side(name).store()
            heard, words = world.heard(name), world.words(OTHER[name])
            awaited = {store.round(): store.next_in(), store.round() - 1: store.past()}
            for turn in range(store.round() + 1):
                found, numbered = of_round(heard, turn), of_round(words, turn)
                self.assertEqual(found, numbered[:len(found)], run)
                if turn in awaited:
                    self.assertEqual(found, [row for row in numbered if row[0] < awaited[turn]], run)
            self.assertEqual([row for row in heard if row[3] or row[0] > store.round()], [], run)
            self.assertEqual(store.heard(), heard)
            self.assertIsNone(parted(words, heard))

    def none_left_untold(self, run, world):
        for name in "ab":
            unsaid = all_unsaid(world, name)
            for turn in range(world.side(name).store().round()):
                heard = of_round(world.heard(OTHER[name]), turn)
                self.assertEqual(heard + of_round(unsaid, turn), of_round(world.words(name), turn), run)
            self.assertEqual(world.side(name).missing(), (), run)

    def test_what_is_heard_without_cuts(self):
        rounds, unsaid, makes = 0, 0, {}
        for resets in (False, True):
            for run, world in worlds(RUNS, resets=resets):
                self.each_once_in_turn(run, world)
                self.none_left_untold(run, world)
                rounds += world.side("a").store().round() > 0
                unsaid += len(all_unsaid(world, "a"))
                makes[world._makes] = makes.get(world._makes, 0) + len(world.heard("a"))
        self.assertGreater(min(rounds, unsaid), 50)
        self.assertEqual(len(makes), 4)
        self.assertGreater(min(makes.values()), 200)

    def test_what_is_heard_once_more_is_in_doubt(self):
        many, skips = 0, 0
        for resets in (False, True):
            for run, world in worlds(RUNS, resets=resets, cuts=True):
                for name in "ab":
                    skips += len(world.side(name).missing())
                    heard = set()
                    for turn, number, _, doubt in world.heard(name):
                        if (turn, number) in heard:
                            self.assertIs(doubt, True, run)
                            many += 1
                        heard.add((turn, number))
        self.assertGreater(min(many, skips), 20)

    def test_all_is_heard_within_pause_and_eight_beats(self):
        many = 0
        for cuts in (False, True):
            for run, world in worlds(RUNS, cuts=cuts, resets=True):
                self.assertLessEqual(beats_due(world), world.pause() + 8, run)
                beats = 0
                while due(world) > 0:
                    world = carried(world)
                    beats += 1
                    self.assertLessEqual(beats, world.pause() + 8, run)
                many += beats > 0
        self.assertGreater(many, 200)

    def test_books_agree_when_all_is_heard(self):
        for run, world in worlds(RUNS, resets=True, parts=2):
            world = carried(world, beats=beats_due(world))
            for name in "ab":
                words, heard = world.words(name), world.heard(OTHER[name])
                self.assertIsNone(parted(words, heard))
                turn = world.side(name).store().round()
                self.assertEqual(of_round(words, turn), of_round(heard, turn), run)

    def test_what_is_heard_hangs_on_no_make(self):
        for run in range(RUNS):
            heard = []
            for makes in [(one, other) for one in MAKES for other in MAKES]:
                chance = random.Random(run)
                world = World(makes=makes, wide=3)
                wild(chance, world)
                told = {name: [deed[2] for deed in world.deeds() if deed[:2] == ("tell", name)] for name in "ab"}
                world = carried(world, beats=beats_due(world))
                for name in "ab":
                    self.assertEqual([row[2] for row in world.heard(name)], told[OTHER[name]], run)
                heard.append(len(world.heard("a") + world.heard("b")))
            self.assertGreater(min(heard), 0)

    def test_letters_are_letters_and_others_change_no_store(self):
        chance = random.Random(5)
        many = 0
        for _, world in worlds(RUNS, resets=True, cuts=True):
            for name in "ab":
                side = world.side(name)
                before = side.store().entries()
                for letter in world.under_way(OTHER[name]):
                    text = show_letter(letter)
                    self.assertEqual(read_letter(text), letter)
                    self.assertIn(side.take_text(text[:chance.randrange(len(text))]), (("form", ()), ("sum", ())))
                    at = chance.randrange(text.rindex("|length"))
                    word, letters = side.take_text(text[:at] + "_" + text[at + 1:])
                    self.assertEqual((word, letters), ("sum", ()))
                    many += 1
                self.assertEqual(side.store().entries(), before)
        self.assertGreater(many, 200)

    def test_the_checker_takes_the_papers_of_the_house(self):
        kinds = {}
        for resets, cuts in ((False, False), (True, False), (False, True), (True, True)):
            for run, world in worlds(RUNS // 2, resets=resets, cuts=cuts):
                for claim, paper in papers(world):
                    self.assertIs(holds(claim, paper), True, run)
                    kinds[claim[0]] = kinds.get(claim[0], 0) + 1
        self.assertLessEqual({"kept", "breaks", "agree", "filled", "awaits"}, set(kinds))
        self.assertGreater(min(kinds.values()), 50)

    def test_whatever_the_checker_takes_is_so(self):
        chance = random.Random(7)
        taken, left = 0, 0
        for resets, cuts in ((False, False), (True, True)):
            for _, world in worlds(RUNS // 2, resets=resets, cuts=cuts):
                mixed = papers(world)
                for claim, paper in mixed:
                    other = chance.choice(mixed)
                    for made in (swapped(chance, claim, other[0]), bent(chance, claim)):
                        if holds(made, paper):
                            self.assertTrue(is_so(made, paper), made)
                            taken += 1
                        else:
                            self.assertFalse(is_so(made, paper), made)
                            left += 1
        self.assertGreater(min(taken, left), 200)

    def test_stores_are_read_back(self):
        for run, world in worlds(RUNS, resets=True, cuts=True):
            for name in "ab":
                store = world.side(name).store()
                self.assertEqual(read_store(str(store)), store, run)
                self.assertEqual(read_store(str(store)).words(), store.words(), run)


def papers(world):
    """The papers of the house of a world: of its sides, its books and its stores."""
    found = []
    for name, make in zip("ab", world._makes):
        side = world.side(name)
        store = side.store()
        found.append(paper_trace(side.trace(), name, make=make, pause=world._pause, wide=world._wide))
        found.append(paper_awaits(store))
        found.append(paper_filled(store, name, 1, 0))
        found.append(paper_filled(store, name, max(1, store.next_out() - 3), 9999))
        try:
            found.append(paper_books(world.words(name), world.heard(OTHER[name])))
        except NoRows:
            pass
    return found


def swapped(chance, claim, other):
    """The claim with a part of another one in the same place."""
    at = chance.randrange(1, min(len(claim), len(other)))
    return claim[:at] + (other[at],) + claim[at + 1:]


def bent(chance, claim):
    """The claim with a number put otherwise, or a row left out or told twice."""
    at = chance.randrange(1, len(claim))
    part = claim[at]
    if type(part) is int:
        part += chance.choice((-1, 1))
    elif type(part) is str:
        part = OTHER[part]
    elif part:
        row = chance.randrange(len(part))
        part = part[:row] + chance.choice(((), (part[row],) * 2)) + part[row + 1:]
    return claim[:at] + (part,) + claim[at + 1:]


def is_so(claim, paper):
    """Whether the claim is so, as the house has it."""
    try:
        if claim[0] in ("kept", "breaks"):
            name, make, pause, wide = claim[1]
            told = paper_trace(claim[2], name, make=make, pause=pause, wide=wide)
        elif claim[0] in ("agree", "parts"):
            told = paper_books(claim[1], claim[2])
        else:
            store = Store()
            store.put_all(claim[1])
            told = paper_awaits(store) if claim[0] == "awaits" else paper_filled(store, *claim[2:])
    except (ValueError, TypeError):
        return False
    return repr(told) == repr((claim, paper))


if __name__ == "__main__":
    unittest.main()
