"""Stores: what a side keeps of its numbers and words, entry by entry, so that it can go on from there."""

from gapfill.bounds import MOST_NUMBER
from gapfill.errors import NoCount, NoEntry, NoStore
from gapfill.letters import has_word, is_text, is_truth, is_whole
from gapfill.parts import show_parts


def _is_tell(parts):
    return len(parts) == 1 and is_text(parts[0])


def _is_alone(parts):
    return len(parts) == 0


def _is_next(parts):
    return len(parts) == 1 and is_whole(parts[0], 1, MOST_NUMBER + 1)


def _is_heard(parts):
    return len(parts) == 2 and is_text(parts[0]) and is_truth(parts[1])


ENTRIES = {
    "tell": _is_tell,
    "word": _is_alone,
    "own": _is_alone,
    "skip": _is_next,
    "heard": _is_heard,
    "got": _is_next,
    "round": _is_next,
    "lost": _is_alone,
}


def is_entry(thing):
    """Whether it is an entry of some store."""
    if not has_word(thing) or thing[0] not in ENTRIES:
        return False
    fits = ENTRIES[thing[0]]
    return fits(thing[1:])


class Store:
    """The entries of a side, and where it stands by them."""

    def __init__(self):
        self._begin()

    def _begin(self):
        self._entries = []
        self._heard = []
        self._waiting = []
        self._round = 0
        self._past = 0
        self._begin_round()

    def _begin_round(self):
        self._next_out = 1
        self._next_in = 1
        self._words = []
        self._doubtful = False
        self._behind = 0

    def _can_follow(self, entry):
        """Whether the entry may come as things stand."""
        word = entry[0]
        if word == "word":
            return len(self._waiting) > 0
        if word == "skip":
            return entry[1] > self._next_out
        if word == "got":
            return entry[1] > self._next_in
        if word == "round":
            return entry[1] == self._next_in
        return True

    def _add(self, entry):
        self._entries.append(entry)
        self._behind += 1
        word = entry[0]
        if word == "tell":
            self._waiting.append(entry[1])
        elif word == "word":
            self._words.append((self._next_out, self._waiting.pop(0)))
            self._next_out += 1
        elif word == "own":
            self._next_out += 1
        elif word == "skip":
            self._next_out = entry[1]
        elif word == "heard":
            self._heard.append((self._round, self._next_in, entry[1], entry[2]))
            self._next_in += 1
        elif word == "got":
            self._next_in = entry[1]
        elif word == "round":
            self._round += 1
            self._past = entry[1]
            self._begin_round()
        else:
            self._doubtful = True

    def _begin_again(self, entries):
        """Stand where these entries lead, which were put before."""
        self._begin()
        for entry in entries:
            self._add(entry)

    def twin(self):
        """A store alike, by itself."""
        other = Store()
        other._begin_again(self._entries)
        return other

    def put(self, entry):
        """Put one entry behind the others."""
        if not is_entry(entry) or not self._can_follow(entry):
            raise NoEntry("this is no entry that can be put here")
        self._add(entry)

    def put_all(self, entries):
        """Put all of them, or none."""
        if type(entries) != tuple:
            raise NoEntry("these are no entries")
        before = self.entries()
        try:
            for entry in entries:
                self.put(entry)
        except NoEntry:
            self._begin_again(before)
            raise

    def cut(self, many):
        """Lose the last entries, as many as told."""
        if not is_whole(many, 0, self._behind):
            raise NoCount("so many entries don't stand behind the last round")
        if many > 0:
            self._begin_again(self.entries()[:-many])
            self._add(("lost",))

    def entries(self):
        """All entries, in turn."""
        return tuple(self._entries)

    def round(self):
        """The round that it is in."""
        return self._round

    def next_out(self):
        """The next number that goes out."""
        return self._next_out

    def next_in(self):
        """The number that is awaited."""
        return self._next_in

    def past(self):
        """What was awaited at the end of the round before this one."""
        return self._past

    def waiting(self):
        """The texts of the words that wait, in turn."""
        return tuple(self._waiting)

    def words(self):
        """The number and the text of each word of this round."""
        return tuple(self._words)

    def doubtful(self):
        """Whether entries of this round were lost."""
        return self._doubtful

    def heard(self):
        """The round, the number, the text and the doubt of each word that was heard."""
        return tuple(self._heard)

    def __len__(self):
        return len(self._entries)

    def __eq__(self, other):
        return type(other) == Store and self._entries == other._entries

    def __repr__(self):
        return f"Store({len(self._entries)})"

    def __str__(self):
        return "\n".join([show_parts(entry) for entry in self._entries])


def need_store(thing):
    """Refuse what is no store."""
    if type(thing) != Store:
        raise NoStore("this is no store")
