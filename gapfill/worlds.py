"""Worlds: two sides over stores of their own, and what is under way from each, deed by deed."""

from gapfill.bounds import PAUSE, PLAIN, SIDES, WIDE
from gapfill.deeds import is_deed
from gapfill.errors import Busy, NoDeed, NoPlace, NoWorld
from gapfill.letters import need_side
from gapfill.rules import need_makes, need_pause, need_wide
from gapfill.sides import OFF, WAITS, Side
from gapfill.stores import Store

OTHER = {"a": "b", "b": "a"}


class World:
    """Two sides, `a` and `b`, and the line between them."""

    def __init__(self, *, makes=(PLAIN, PLAIN), pause=PAUSE, wide=WIDE):
        need_makes(makes)
        need_pause(pause)
        need_wide(wide)
        self._makes = makes
        self._pause = pause
        self._wide = wide
        self._deeds = []
        self._sides = {name: self._made_side(name, Store()) for name in SIDES}
        self._way = {"a": [], "b": []}
        self._words = {"a": [], "b": []}
        # What a side heard before it was last made anew; the rest it tells itself.
        self._heard_before = {"a": [], "b": []}

    def _made_side(self, name, store):
        make = self._makes[SIDES.index(name)]
        return Side(store, name, make=make, pause=self._pause, wide=self._wide)

    def twin(self):
        """A world that stands as this one, by itself."""
        other = World(makes=self._makes, pause=self._pause, wide=self._wide)
        other._deeds = list(self._deeds)
        other._sides = {name: self._sides[name].twin() for name in SIDES}
        other._way = {name: list(self._way[name]) for name in SIDES}
        other._words = {name: list(self._words[name]) for name in SIDES}
        other._heard_before = {name: list(self._heard_before[name]) for name in SIDES}
        return other

    # Its deeds

    def do(self, deed):
        """Do one deed."""
        if not is_deed(deed):
            raise NoDeed("this is no deed")
        self._need_free(deed)
        self._act(deed)
        self._deeds.append(deed)

    def do_all(self, deeds):
        """Do all of them, or none."""
        if type(deeds) != tuple:
            raise NoDeed("these are no deeds")
        trial = self.twin()
        for deed in deeds:
            trial.do(deed)
        self._deeds = trial._deeds
        self._sides = trial._sides
        self._way = trial._way
        self._words = trial._words
        self._heard_before = trial._heard_before

    def _need_free(self, deed):
        """Refuse what can't be done as things stand; a cut of too many is left to the store."""
        word = deed[0]
        if word in ("open", "cut") and self._sides[deed[1]].state() != OFF:
            raise Busy("the side isn't off")
        if word in ("bring", "lose", "double") and deed[2] >= len(self._way[deed[1]]):
            raise NoPlace(deed[2])

    def _act(self, deed):
        word = deed[0]
        if word == "fall":
            self._fall()
        elif word == "tell":
            self._tell(deed[1], deed[2])
        elif word == "open":
            self._greet(deed[1], deed[2])
        elif word == "close":
            self._send(deed[1], self._sides[deed[1]].close())
        elif word == "beat":
            self._beat(deed[1])
        elif word == "crash":
            self._crash(deed[1])
        elif word == "cut":
            self._sides[deed[1]].store().cut(deed[2])
        else:
            self._move(word, deed[1], deed[2])

    def _send(self, name, letters):
        self._way[name].extend(letters)

    def _fall(self):
        for name in SIDES:
            self._sides[name].fall()
            self._way[name] = []

    def _tell(self, name, text):
        turn, many = self._numbered(name)
        self._send(name, self._sides[name].tell(text))
        self._note_words(name, turn, many)

    def _greet(self, name, reset):
        other = self._sides[OTHER[name]]
        if other.state() != WAITS or len(self._way[name]) > 0:
            self._fall()
        self._send(name, self._sides[name].greet(reset=reset))

    def _beat(self, name):
        side = self._sides[name]
        was_off = side.state() == OFF
        self._send(name, side.beat())
        if side.state() == OFF and not was_off:
            self._fall()

    def _crash(self, name):
        self._fall()
        side = self._sides[name]
        self._heard_before[name].extend(side.heard())
        self._sides[name] = self._made_side(name, side.store())

    def _move(self, word, name, at):
        """Bring, lose or double the letter of this place."""
        way = self._way[name]
        if word == "double":
            way.append(way[at])
            return
        letter = way.pop(at)
        if word == "bring":
            self._bring(OTHER[name], letter)

    def _bring(self, name, letter):
        turn, many = self._numbered(name)
        _, letters = self._sides[name].take(letter)
        self._send(name, letters)
        self._note_words(name, turn, many)

    def _numbered(self, name):
        """The side's round, and how many words have a number in it."""
        store = self._sides[name].store()
        return store.round(), len(store.words())

    def _note_words(self, name, turn, many):
        """Note the words that were numbered since there were so many in this round."""
        store = self._sides[name].store()
        before = many if store.round() == turn else 0
        self._words[name].extend([(store.round(), number, text) for number, text in store.words()[before:]])

    # How it stands

    def side(self, name):
        """A side as it stands, by itself."""
        need_side(name)
        return self._sides[name].twin()

    def state(self, name):
        """`off`, `waits` or `on`."""
        need_side(name)
        return self._sides[name].state()

    def pause(self):
        """The pause of both sides."""
        return self._pause

    def under_way(self, name):
        """The letters under way from a side, in turn."""
        need_side(name)
        return tuple(self._way[name])

    def words(self, name):
        """The round, the number and the text of each word that a side ever numbered."""
        need_side(name)
        return tuple(self._words[name])

    def heard(self, name):
        """The round, the number, the text and the doubt of each word that a side ever heard."""
        need_side(name)
        return tuple(self._heard_before[name]) + self._sides[name].heard()

    def deeds(self):
        """All deeds that were done."""
        return tuple(self._deeds)

    def __len__(self):
        return len(self._way["a"] + self._way["b"])

    def __eq__(self, other):
        if type(other) != World:
            return False
        if self._makes != other._makes or self._pause != other._pause or self._wide != other._wide:
            return False
        return self._deeds == other._deeds


def need_world(thing):
    """Refuse what is no world."""
    if type(thing) != World:
        raise NoWorld("this is no world")
