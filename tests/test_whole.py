"""Point 3: what holds in every run of a World, tried out in many."""

import random
import unittest

from gapfill.books import parted
from gapfill.carrying import beats_due, carried, due
from gapfill.lettertexts import read_letter, show_letter
from gapfill.worlds import World
from tests.runs import MAKES, OTHER, all_unsaid, of_round, wild, worlds

RUNS = 160


class Whole(unittest.TestCase):
    def each_once_in_turn(self, run, world):
        for name in "ab":
            store = world.side(name).store()
            heard, words = world.heard(name), world.words(OTHER[name])
            awaited = {store.round(): store.next_in(), store.round() - 1: store.past()}
            for turn in range(store.round() + 1):
                found, numbered = of_round(heard, turn), of_round(words, turn)
                self.assertEqual(found, numbered[:len(found)], run)
                if turn in awaited:
                    self.assertEqual(found, [row for row in numbered if row[0] < awaited[turn]], run)
            self.assertEqual([row for row in heard if row[3] or row[0] > store.round()], [], run)
            self.assertEqual(store.heard(), heard)
            self.assertIsNone(parted(words, heard))

    def none_left_untold(self, run, world):
        for name in "ab":
            unsaid = all_unsaid(world, name)
            for turn in range(world.side(name).store().round()):
                heard = of_round(world.heard(OTHER[name]), turn)
                self.assertEqual(heard + of_round(unsaid, turn), of_round(world.words(name), turn), run)
            self.assertEqual(world.side(name).missing(), (), run)

    def test_what_is_heard_without_cuts(self):
        rounds, unsaid, makes = 0, 0, {}
        for resets in (False, True):
            for run, world in worlds(RUNS, resets=resets):
                self.each_once_in_turn(run, world)
                self.none_left_untold(run, world)
                rounds += world.side("a").store().round() > 0
                unsaid += len(all_unsaid(world, "a"))
                makes[world._makes] = makes.get(world._makes, 0) + len(world.heard("a"))
        self.assertGreater(min(rounds, unsaid), 50)
        self.assertEqual(len(makes), 4)
        self.assertGreater(min(makes.values()), 200)

    def test_what_is_heard_once_more_is_in_doubt(self):
        many, skips = 0, 0
        for resets in (False, True):
            for run, world in worlds(RUNS, resets=resets, cuts=True):
                for name in "ab":
                    skips += len(world.side(name).missing())
                    heard = set()
                    for turn, number, _, doubt in world.heard(name):
                        if (turn, number) in heard:
                            self.assertIs(doubt, True, run)
                            many += 1
                        heard.add((turn, number))
        self.assertGreater(min(many, skips), 20)

    def test_all_is_heard_within_pause_and_eight_beats(self):
        many = 0
        for cuts in (False, True):
            for run, world in worlds(RUNS, cuts=cuts, resets=True):
                self.assertLessEqual(beats_due(world), world.pause() + 8, run)
                beats = 0
                while due(world) > 0:
                    world = carried(world)
                    beats += 1
                    self.assertLessEqual(beats, world.pause() + 8, run)
                many += beats > 0
        self.assertGreater(many, 200)

    def test_books_agree_when_all_is_heard(self):
        for run, world in worlds(RUNS, resets=True, parts=2):
            world = carried(world, beats=beats_due(world))
            for name in "ab":
                words, heard = world.words(name), world.heard(OTHER[name])
                self.assertIsNone(parted(words, heard))
                turn = world.side(name).store().round()
                self.assertEqual(of_round(words, turn), of_round(heard, turn), run)

    def test_what_is_heard_hangs_on_no_make(self):
        for run in range(RUNS):
            heard = []
            for makes in [(one, other) for one in MAKES for other in MAKES]:
                chance = random.Random(run)
                world = World(makes=makes, wide=3)
                wild(chance, world)
                told = {name: [deed[2] for deed in world.deeds() if deed[:2] == ("tell", name)] for name in "ab"}
                world = carried(world, beats=beats_due(world))
                for name in "ab":
                    self.assertEqual([row[2] for row in world.heard(name)], told[OTHER[name]], run)
                heard.append(len(world.heard("a") + world.heard("b")))
            self.assertGreater(min(heard), 0)

    def test_letters_are_letters_and_others_change_no_store(self):
        chance = random.Random(5)
        many = 0
        for _, world in worlds(RUNS, resets=True, cuts=True):
            for name in "ab":
                side = world.side(name)
                before = side.store().entries()
                for letter in world.under_way(OTHER[name]):
                    text = show_letter(letter)
                    self.assertEqual(read_letter(text), letter)
                    self.assertIn(side.take_text(text[:chance.randrange(len(text))]), (("form", ()), ("sum", ())))
                    at = chance.randrange(text.rindex("|length"))
                    word, letters = side.take_text(text[:at] + "_" + text[at + 1:])
                    self.assertEqual((word, letters), ("sum", ()))
                    many += 1
                self.assertEqual(side.store().entries(), before)
        self.assertGreater(many, 200)


if __name__ == "__main__":
    unittest.main()
