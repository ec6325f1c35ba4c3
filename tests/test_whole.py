"""Point 3, as far as sides and their stores go: what holds in every run, tried out in many."""

import random
import unittest

from tests.line import OTHER, Line, wild

MAKES = ("plain", "windowed")
RUNS = 240


def lines(*, resets=False, cuts=False):
    """Many lines that went on wildly, each with its number."""
    for run in range(RUNS):
        chance = random.Random(run)
        makes = (chance.choice(MAKES), chance.choice(MAKES))
        line = Line(makes, chance.choice((3, 5, 7)), chance.choice((1, 3, 8)))
        for _ in range(4):
            wild(chance, line, resets=resets, cuts=cuts, steps=chance.choice((10, 40)), loss=chance.choice((0.02, 0.2, 0.6)))
            yield run, line


def of_round(rows, turn):
    return [row[1:3] for row in rows if row[0] == turn]


class Whole(unittest.TestCase):
    def each_once_in_turn(self, run, line):
        for name in "ab":
            store = line.stores[name]
            heard, words = line.heard[name], line.words[OTHER[name]]
            for turn in range(store.round() + 1):
                found = of_round(heard, turn)
                numbered = of_round(words, turn)
                self.assertEqual(found, numbered[:len(found)], run)
                if turn == store.round():
                    self.assertEqual(found, [row for row in numbered if row[0] < store.next_in()], run)
            self.assertEqual([row for row in heard if row[3] or row[0] > store.round()], [], run)
            self.assertEqual(store.heard(), tuple(heard))

    def none_left_untold(self, run, line):
        for name in "ab":
            unsaid = line.unsaid[name] + list(line.sides[name].unsaid())
            for turn in range(line.stores[name].round()):
                heard = of_round(line.heard[OTHER[name]], turn)
                self.assertEqual(heard + of_round(unsaid, turn), of_round(line.words[name], turn), run)
            self.assertEqual(line.sides[name].missing(), (), run)

    def test_what_is_heard_without_cuts(self):
        many = 0
        for resets in (False, True):
            for run, line in lines(resets=resets):
                self.each_once_in_turn(run, line)
                self.none_left_untold(run, line)
                many += line.stores["a"].round() > 0
        self.assertGreater(many, 50)

    def test_what_is_heard_once_more_is_in_doubt(self):
        many = 0
        for resets in (False, True):
            for run, line in lines(resets=resets, cuts=True):
                for name in "ab":
                    heard = set()
                    for turn, number, _, doubt in line.heard[name]:
                        if (turn, number) in heard:
                            self.assertIs(doubt, True, run)
                            many += 1
                        heard.add((turn, number))
        self.assertGreater(many, 50)

    def test_all_is_heard_within_pause_and_eight_beats(self):
        many = 0
        for cuts in (False, True):
            for run, line in lines(cuts=cuts, resets=True):
                beats = 0
                while line.due() > 0:
                    line.carry()
                    beats += 1
                    self.assertLessEqual(beats, line.pause + 8, run)
                many += beats > 0
        self.assertGreater(many, 200)

    def test_what_is_heard_hangs_on_no_make(self):
        for run in range(RUNS):
            heard = []
            for makes in (("plain", "plain"), ("plain", "windowed"), ("windowed", "plain"), ("windowed", "windowed")):
                chance = random.Random(run)
                line = Line(makes, 5, 3)
                wild(chance, line)
                texts = {name: [row[1] for row in line.stores[name].words()] + list(line.stores[name].waiting()) for name in "ab"}
                while line.due() > 0:
                    line.carry()
                for name in "ab":
                    self.assertEqual([row[2] for row in line.heard[name]], texts[OTHER[name]], run)
                heard.append(sum(len(rows) for rows in line.heard.values()))
            self.assertGreater(min(heard), 0)

    def test_letters_that_aren_t_as_told_change_no_store(self):
        chance = random.Random(5)
        for _, line in lines():
            for name in "ab":
                side, before = line.sides[name], line.stores[name].entries()
                for letter in line.way[OTHER[name]][:3]:
                    text = repr(letter)
                    side.take_text(text[:chance.randrange(len(text))])
                self.assertEqual(line.stores[name].entries(), before)


if __name__ == "__main__":
    unittest.main()
