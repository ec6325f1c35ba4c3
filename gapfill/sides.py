"""Sides: one end of the line, which goes on over its store."""

from gapfill.answers import answered
from gapfill.bounds import PAUSE, PLAIN, WIDE, WINDOWED
from gapfill.errors import Busy, NoText, NoTruth
from gapfill.letters import is_text, is_truth, need_letter, need_side, reach
from gapfill.lettertexts import read_letter
from gapfill.rules import need_make, need_pause, need_wide
from gapfill.stores import need_store
from gapfill.windows import next_kept, reaching_beyond, runs_without

OFF = "off"
WAITS = "waits"
ON = "on"


class Side:
    """One end of the line: what it is told, what it takes, and what it sends."""

    def __init__(self, store, name, *, make=PLAIN, pause=PAUSE, wide=WIDE):
        need_store(store)
        need_side(name)
        need_make(make)
        need_pause(pause)
        need_wide(wide)
        self._store = store
        self._name = name
        self._make = make
        self._pause = pause
        self._wide = wide
        self._state = OFF
        self._reset = False
        self._heard = []
        self._unsaid = []
        self._missing = []
        self._log = []
        self._trace = []
        self._start()

    def _start(self):
        """What an opening ends, or makes new."""
        self._seen = 0
        self._kept = {}
        self._asked = False
        self._idle = 0
        self._quiet = 0

    def twin(self):
        """A side that stands as this one, over an alike store, by itself."""
        other = Side(self._store.twin(), self._name, make=self._make, pause=self._pause, wide=self._wide)
        other._state = self._state
        other._reset = self._reset
        other._heard = list(self._heard)
        other._unsaid = list(self._unsaid)
        other._missing = list(self._missing)
        other._log = list(self._log)
        other._trace = list(self._trace)
        other._seen = self._seen
        other._kept = dict(self._kept)
        other._asked = self._asked
        other._idle = self._idle
        other._quiet = self._quiet
        return other

    # Its deeds

    def tell(self, text):
        """Give it a word to send."""
        if not is_text(text):
            raise NoText("form")
        self._store.put(("tell", text))
        letters = self._sent_words() if self._state == ON else []
        return self._traced(("tell", text), letters)

    def greet(self, *, reset=False):
        """Open it."""
        if not is_truth(reset):
            raise NoTruth("whether to reset is no truth")
        if self._state != OFF:
            raise Busy("the side is open already")
        self._start()
        self._state = WAITS
        self._reset = reset
        return self._traced(("open", reset), [self._hello(False)])

    def fall(self):
        """Its line falls."""
        self._state = OFF
        return self._traced(("fall",), [])

    def close(self):
        """Close it, with a bye where it was open."""
        letters = [] if self._state == OFF else [(self._name, 0, False, ("bye",))]
        self._state = OFF
        return self._traced(("close",), letters)

    def take(self, letter):
        """Take a letter that came: (WORD, LETTERS)."""
        need_letter(letter)
        word, letters = self._taken(letter)
        self._log.append(word)
        return word, self._traced(("take", letter), letters)

    def take_text(self, text):
        """Take a letter that came as a text: (WORD, LETTERS), WORD why where it can't be read."""
        try:
            letter = read_letter(text)
        except NoText as refusal:
            self._log.append(refusal.why)
            return refusal.why, ()
        return self.take(letter)

    def beat(self):
        """Let one beat pass."""
        return self._traced(("beat",), self._beaten())

    # How it stands

    def state(self):
        """`off`, `waits` or `on`."""
        return self._state

    def store(self):
        """Its store itself."""
        return self._store

    def seen(self):
        """The greatest number seen."""
        return self._seen

    def idle(self):
        """How many beats it has sent nothing with a number of its own."""
        return self._idle

    def quiet(self):
        """How many beats nothing came."""
        return self._quiet

    def kept(self):
        """The numbers of the letters that it keeps, rising."""
        return tuple(sorted(self._kept))

    def heard(self):
        """The round, the number, the text and the doubt of each word that it heard since it was made."""
        return tuple(self._heard)

    def unsaid(self):
        """The round, the number and the text of each word that a new round left unheard."""
        return tuple(self._unsaid)

    def missing(self):
        """The round, the first and the last number of each skip."""
        return tuple(self._missing)

    def log(self):
        """The word of each letter that was taken."""
        return tuple(self._log)

    def trace(self):
        """All deeds that were done, each with the letters that came of it."""
        return tuple(self._trace)

    def _traced(self, deed, letters):
        told = tuple(letters)
        self._trace.append((deed, told))
        return told

    # What it sends

    def _hello(self, reply):
        store = self._store
        top = store.next_out() - 1
        return (self._name, 0, False, ("hello", store.round(), top, store.next_in(), store.past(), self._reset, reply))

    def _sent_own(self, body):
        number = self._store.next_out()
        self._store.put(("own",))
        self._idle = 0
        return (self._name, number, False, body)

    def _sent_words(self):
        """All words that wait, sent."""
        letters = []
        texts = self._store.waiting()
        for text in texts:
            number = self._store.next_out()
            self._store.put(("word",))
            self._idle = 0
            letters.append((self._name, number, self._store.doubtful(), ("word", text)))
        return letters

    def _sent_asks(self):
        """Its asks for what it lacks."""
        self._asked = True
        awaited = self._store.next_in()
        if self._make != WINDOWED:
            return [self._sent_own(("ask", awaited, 0))]
        runs = runs_without(self._kept, awaited, self._seen) + [(self._seen + 1, 0)]
        return [self._sent_own(("ask", first, last)) for first, last in runs]

    def _answer(self, ask):
        return list(answered(self._store, self._name, ask[1], ask[2]))

    # What comes of a letter

    def _taken(self, letter):
        """(WORD, LETTERS) of any letter."""
        if letter[0] == self._name:
            return "side", []
        if self._state == OFF:
            return "off", []
        self._quiet = 0
        body = letter[3]
        if body[0] == "bye":
            self._state = OFF
            return "bye", []
        if body[0] == "hello":
            return self._greeted(body)
        if self._state == WAITS:
            return "early", []
        return self._taken_numbered(letter)

    def _greeted(self, hello):
        """(WORD, LETTERS) of a hello."""
        ahead = hello[1] - self._store.round()
        if abs(ahead) > 1:
            return "apart", []
        comes_up = self._state == WAITS
        if comes_up:
            self._come_up(hello, ahead)
        elif ahead == 0:
            self._seen = max(self._seen, hello[2])
        letters = [] if hello[6] else [self._hello(True)]
        if comes_up:
            letters = letters + self._sent_words()
        return "hello", letters

    def _come_up(self, hello, ahead):
        """It is on by this hello, whose round is ahead of its own by so many."""
        _, _, top, wanted, past, reset, reply = hello
        self._state = ON
        self._seen = top
        if ahead == 0 and reset and self._reset and not reply:
            self._put_round(wanted)
            self._seen = 0
        elif ahead == 0:
            self._put_skip(wanted)
        elif ahead == 1:
            self._put_round(past)
        else:
            self._seen = 0

    def _put_round(self, unheard):
        """Begin a new round; the other side has heard none of this one's numbers from this one on."""
        elder = self._store.round()
        words = self._store.words()
        self._unsaid.extend([(elder, number, text) for number, text in words if number >= unheard])
        self._store.put(("round", self._store.next_in()))

    def _put_skip(self, wanted):
        """Skip the numbers that the other side has had, and this one has lost."""
        number = self._store.next_out()
        if wanted > number:
            self._missing.append((self._store.round(), number, wanted - 1))
            self._store.put(("skip", wanted))

    def _taken_numbered(self, letter):
        """(WORD, LETTERS) of a letter with a number, where it is on."""
        awaited = self._store.next_in()
        beyond = reach(letter)
        self._seen = max(self._seen, beyond - 1)
        if beyond <= awaited:
            return "low", []
        if letter[1] > awaited:
            return "gap", self._gap(letter)
        word = "word" if letter[3][0] == "word" else "own"
        letters = self._taken_up(letter)
        if letter[3][0] == "ask":
            letters = self._answer(letter[3])
        return word, letters + self._taken_kept()

    def _gap(self, letter):
        """The letters that come of one that begins beyond the awaited number."""
        number, body = letter[1], letter[3]
        letters = []
        if body[0] == "ask":
            letters = self._answer(body)
        in_window = number < self._store.next_in() + self._wide
        if self._make == WINDOWED and in_window and number not in self._kept:
            self._kept[number] = letter
        if not self._asked:
            letters = letters + self._sent_asks()
        return letters

    def _taken_up(self, letter):
        """The letters that come of one whose turn it is, but for the answer to an ask."""
        store, again, body = self._store, letter[2], letter[3]
        if body[0] == "word":
            doubt = again and store.doubtful()
            self._heard.append((store.round(), store.next_in(), body[1], doubt))
            store.put(("heard", body[1], doubt))
            return []
        store.put(("got", reach(letter)))
        if body[0] == "test":
            return [self._sent_own(("beat", body[1]))]
        return []

    def _taken_kept(self):
        """The letters that come of the kept ones whose turn it is now."""
        letters = []
        number = next_kept(self._kept, self._store.next_in())
        while number is not None:
            letters = letters + self._taken_up(self._kept.pop(number))
            number = next_kept(self._kept, self._store.next_in())
        self._kept = reaching_beyond(self._kept, self._store.next_in())
        return letters

    # What comes of a beat

    def _beaten(self):
        if self._state == OFF:
            return []
        self._quiet += 1
        if self._quiet == 3 * self._pause:
            self._state = OFF
            return []
        if self._state == WAITS:
            return [self._hello(False)]
        return self._beaten_on()

    def _beaten_on(self):
        """The letters that come of a beat where it is on."""
        self._idle += 1
        self._asked = False
        letters = []
        if self._seen >= self._store.next_in():
            letters = self._sent_asks()
        if self._quiet >= 2 * self._pause:
            letters = letters + [self._sent_own(("test", self._quiet))]
        elif self._idle >= self._pause:
            letters = letters + [self._sent_own(("beat", 0))]
        return letters
