"""Two sides and the line between them, for tests of what holds in any run."""

from gapfill.lettertexts import read_letter, show_letter
from gapfill.sides import Side
from gapfill.stores import Store

OTHER = {"a": "b", "b": "a"}


class Line:
    """Two sides, what is under way from each, and what each ever numbered and heard."""

    def __init__(self, makes, pause, wide):
        self.rules = {name: {"make": make, "pause": pause, "wide": wide} for name, make in zip("ab", makes)}
        self.pause = pause
        self.stores = {"a": Store(), "b": Store()}
        self.sides = {name: Side(self.stores[name], name, **self.rules[name]) for name in "ab"}
        self.way = {"a": [], "b": []}
        self.words = {"a": [], "b": []}
        self.heard = {"a": [], "b": []}
        self.unsaid = {"a": [], "b": []}

    def do(self, name, deed):
        """What the side does; its letters go under way, as texts, and what it numbered and heard is noted."""
        side, store = self.sides[name], self.stores[name]
        turn, many, heard = store.round(), len(store.words()), len(side.heard())
        letters = deed(side)
        if store.round() != turn:
            many = 0
        self.words[name] += [(store.round(),) + row for row in store.words()[many:]]
        self.heard[name] += side.heard()[heard:]
        for letter in letters:
            assert letter == read_letter(show_letter(letter))
        self.way[name] += letters

    def fall(self):
        for name in "ab":
            self.sides[name].fall()
            self.way[name] = []

    def tell(self, name, text):
        self.do(name, lambda side: side.tell(text))

    def open_up(self, name, reset=False):
        if self.sides[OTHER[name]].state() != "waits" or self.way[name]:
            self.fall()
        self.do(name, lambda side: side.greet(reset=reset))

    def close(self, name):
        self.do(name, lambda side: side.close())

    def beat(self, name):
        was = self.sides[name].state()
        self.do(name, lambda side: side.beat())
        if was != "off" and self.sides[name].state() == "off":
            self.fall()

    def bring(self, name, at):
        text = show_letter(self.way[name].pop(at))
        self.do(OTHER[name], lambda side: side.take_text(text)[1])

    def lose(self, name, at):
        self.way[name].pop(at)

    def double(self, name, at):
        self.way[name].append(self.way[name][at])

    def crash(self, name):
        self.fall()
        self.unsaid[name] += self.sides[name].unsaid()
        self.sides[name] = Side(self.stores[name], name, **self.rules[name])

    def cut(self, name, part):
        """The store loses so much of what stands behind its last round."""
        entries = self.stores[name].entries()
        behind = 0
        while behind < len(entries) and entries[-1 - behind][0] != "round":
            behind += 1
        self.stores[name].cut(int(behind * part))

    def carry(self):
        """One beat of a line that carries."""
        for name in "aba":
            if self.sides[name].state() == "off":
                self.open_up(name)
        self.beat("a")
        self.beat("b")
        for _ in range(len(self.way["a"])):
            self.bring("a", 0)
        while self.way["b"]:
            self.bring("b", 0)

    def due(self):
        """How many words aren't heard yet."""
        due = 0
        for name in "ab":
            store, other = self.stores[name], self.stores[OTHER[name]]
            due += len(store.waiting())
            if store.round() == other.round():
                due += len([number for number, _ in store.words() if number >= other.next_in()])
            elif store.round() > other.round():
                due += len(store.words())
        return due


def wild(chance, line, *, resets=False, cuts=False, steps=80, loss=0.1):
    """Some steps of a line that loses, doubles and turns letters, of sides that open, close, fall and are made anew."""
    told = 0
    for _ in range(steps):
        name, step = chance.choice("ab"), chance.random()
        way = line.way[name]
        off = line.sides[name].state() == "off"
        if step < 0.16:
            told += 1
            line.tell(name, f"word {told}")
        elif step < 0.5 and off:
            if cuts and chance.random() < 0.3:
                line.cut(name, chance.random())
            line.open_up(name, resets and chance.random() < 0.6)
        elif step < 0.17:
            line.close(name)
        elif step < 0.25:
            line.beat(name)
        elif step < 0.26:
            line.fall()
        elif step < 0.265:
            line.crash(name)
        elif way:
            at = chance.randrange(len(way)) if chance.random() < 0.3 else 0
            deed = chance.choice((line.lose, line.double)) if chance.random() < loss else line.bring
            deed(name, at)
