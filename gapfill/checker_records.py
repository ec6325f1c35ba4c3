"""The checker's own store: what entries come to, as far as its claims ask for it."""

from gapfill.checker_letters import is_entry


class Record:
    """Where a side stands by its entries."""

    def __init__(self):
        self.turn = 0
        self.outgoing = 1
        self.incoming = 1
        self.earlier = 0
        self.told = []
        self.numbered = {}

    def enter(self, entry):
        """Enter what may be an entry; whether it is one, and can be put."""
        if not is_entry(entry) or not self._fits(entry):
            return False
        word = entry[0]
        if word == "tell":
            self.told.append(entry[1])
        elif word == "word":
            self.numbered[self.outgoing] = self.told.pop(0)
            self.outgoing += 1
        elif word == "own":
            self.outgoing += 1
        elif word == "skip":
            self.outgoing = entry[1]
        elif word == "heard":
            self.incoming += 1
        elif word == "got":
            self.incoming = entry[1]
        elif word == "round":
            self._turn_over()
        return True

    def _fits(self, entry):
        word = entry[0]
        if word == "word":
            return len(self.told) > 0
        if word == "skip":
            return entry[1] > self.outgoing
        if word == "got":
            return entry[1] > self.incoming
        return word != "round" or entry[1] == self.incoming

    def _turn_over(self):
        """Begin the next round."""
        self.turn += 1
        self.earlier = self.incoming
        self.outgoing = 1
        self.incoming = 1
        self.numbered = {}

    def answer(self, name, first, last):
        """The letters that answer an ask for these numbers."""
        letters = []
        number = first
        while self._is_asked(number, last):
            if number in self.numbered:
                letters.append((name, number, True, ("word", self.numbered[number])))
                number += 1
            else:
                behind = number + 1
                while self._is_asked(behind, last) and behind not in self.numbered:
                    behind += 1
                letters.append((name, number, True, ("fill", behind)))
                number = behind
        return letters

    def _is_asked(self, number, last):
        """Whether this number, from the first one on, is there and asked for."""
        return number < self.outgoing and (last == 0 or number <= last)


def recorded(entries):
    """The record of these entries; None where they are none, or can't be put in turn."""
    if type(entries) != tuple:
        return None
    record = Record()
    for entry in entries:
        if not record.enter(entry):
            return None
    return record
