"""The checker's own side: which letters must come of each deed in a trace."""

from gapfill.checker_letters import is_deed, is_same
from gapfill.checker_records import Record


def _behind(letter):
    """The number behind a numbered letter."""
    body = letter[3]
    return body[1] if body[0] == "fill" else letter[1] + 1


class Player:
    """A side over a new store, which plays a trace."""

    def __init__(self, rule):
        name, make, pause, wide = rule
        self._name = name
        self._keeps = make == "windowed"
        self._pause = pause
        self._wide = wide
        self._ledger = Record()
        self._stage = "off"
        self._resets = False
        self._begin()

    def _begin(self):
        self._highest = 0
        self._shelf = {}
        self._has_asked = False
        self._beats_dull = 0
        self._beats_still = 0

    def play(self, deed):
        """The letters that must come of a deed; None where it can't be done."""
        word = deed[0]
        if word == "open":
            return self._play_open(deed[1])
        if word == "tell":
            self._ledger.enter(deed)
            return self._send_told() if self._stage == "on" else []
        if word == "take":
            return self._play_take(deed[1])
        if word == "beat":
            return self._play_beat()
        letters = []
        if word == "close" and self._stage != "off":
            letters = [(self._name, 0, False, ("bye",))]
        self._stage = "off"
        return letters

    # What it sends

    def _hello(self, reply):
        record = self._ledger
        numbers = (record.turn, record.outgoing - 1, record.incoming, record.earlier)
        return (self._name, 0, False, ("hello",) + numbers + (self._resets, reply))

    def _send_own(self, body):
        letter = (self._name, self._ledger.outgoing, False, body)
        self._ledger.enter(("own",))
        self._beats_dull = 0
        return letter

    def _send_told(self):
        """Send all words that wait."""
        letters = []
        while len(self._ledger.told) > 0:
            text = self._ledger.told[0]
            # Over a new store nothing is lost: so no word is sent as one that may have come before.
            letters.append((self._name, self._ledger.outgoing, False, ("word", text)))
            self._ledger.enter(("word",))
            self._beats_dull = 0
        return letters

    def _send_asks(self):
        self._has_asked = True
        first = self._ledger.incoming
        if not self._keeps:
            return [self._send_own(("ask", first, 0))]
        bodies = []
        for number in sorted(self._shelf):
            if number > first:
                bodies.append(("ask", first, number - 1))
            first = max(first, _behind(self._shelf[number]))
        if first <= self._highest:
            bodies.append(("ask", first, self._highest))
        bodies.append(("ask", self._highest + 1, 0))
        return [self._send_own(body) for body in bodies]

    # Opening, beats

    def _play_open(self, reset):
        if self._stage != "off":
            return None
        self._begin()
        self._stage = "waits"
        self._resets = reset
        return [self._hello(False)]

    def _play_beat(self):
        if self._stage == "off":
            return []
        self._beats_still += 1
        if self._beats_still >= 3 * self._pause:
            self._stage = "off"
            return []
        if self._stage == "waits":
            return [self._hello(False)]
        self._beats_dull += 1
        self._has_asked = False
        letters = []
        if self._highest >= self._ledger.incoming:
            letters = self._send_asks()
        if self._beats_still >= 2 * self._pause:
            letters.append(self._send_own(("test", self._beats_still)))
        elif self._beats_dull >= self._pause:
            letters.append(self._send_own(("beat", 0)))
        return letters

    # Letters that come

    def _play_take(self, letter):
        if letter[0] == self._name or self._stage == "off":
            return []
        self._beats_still = 0
        word = letter[3][0]
        if word == "bye":
            self._stage = "off"
            return []
        if word == "hello":
            return self._take_hello(letter[3])
        return self._take_numbered(letter) if self._stage == "on" else []

    def _take_hello(self, hello):
        turn, top, reply = hello[1], hello[2], hello[6]
        mine = self._ledger.turn
        if turn > mine + 1 or turn < mine - 1:
            return []
        if self._stage == "on":
            if turn == mine:
                self._highest = max(self._highest, top)
            return [] if reply else [self._hello(True)]
        self._stage = "on"
        both_reset = turn == mine and hello[5] and self._resets and not reply
        self._highest = 0 if turn < mine or both_reset else top
        if turn > mine or both_reset:
            self._ledger.enter(("round", self._ledger.incoming))
        elif turn == mine:
            # Entered only where that one has had numbers that this one has lost.
            self._ledger.enter(("skip", hello[3]))
        greeting = [] if reply else [self._hello(True)]
        return greeting + self._send_told()

    def _take_numbered(self, letter):
        number, body = letter[1], letter[3]
        behind = _behind(letter)
        self._highest = max(self._highest, behind - 1)
        if behind <= self._ledger.incoming:
            return []
        if number <= self._ledger.incoming:
            letters = self._take_up(letter)
            if body[0] == "ask":
                letters = self._answer(body)
            return letters + self._take_shelf()
        letters = self._answer(body) if body[0] == "ask" else []
        if self._keeps and number < self._ledger.incoming + self._wide:
            self._shelf.setdefault(number, letter)
        return letters if self._has_asked else letters + self._send_asks()

    def _answer(self, ask):
        return self._ledger.answer(self._name, ask[1], ask[2])

    def _take_up(self, letter):
        """The letters that come of one that is taken, but for the answer to an ask."""
        body = letter[3]
        self._ledger.enter(("got", _behind(letter)))
        return [self._send_own(("beat", body[1]))] if body[0] == "test" else []

    def _next_on_shelf(self):
        """The number of the kept letter that comes next, 0 where none does."""
        awaited = self._ledger.incoming
        if awaited in self._shelf:
            return awaited
        ready = [number for number in self._shelf if number < awaited < _behind(self._shelf[number])]
        return min(ready, default=0)

    def _take_shelf(self):
        """Those that reach no further may stay where they are: they come next no more, and change no ask."""
        letters = []
        while self._next_on_shelf() > 0:
            letters = letters + self._take_up(self._shelf.pop(self._next_on_shelf()))
        return letters


def first_broken(rule, trace):
    """The number of the first row that isn't as such a side has it, None where all are."""
    player = Player(rule)
    for at, row in enumerate(trace):
        if type(row) != tuple or len(row) != 2 or not is_deed(row[0]):
            return at
        letters = player.play(row[0])
        if letters is None or not is_same(row[1], tuple(letters)):
            return at
    return None
