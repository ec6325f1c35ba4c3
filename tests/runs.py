"""Worlds that went on wildly, for tests of what holds in any run, and what such runs tell."""

import random

from gapfill.sides import Side
from gapfill.stores import Store
from gapfill.worlds import World
from tests.benches import inside

OTHER = {"a": "b", "b": "a"}
MAKES = ("plain", "windowed")

OPEN_A, OPEN_B = ("open", "a", False), ("open", "b", False)
BRING_A, BRING_B = ("bring", "a", 0), ("bring", "b", 0)
# Behind these both wait; both are on, and nothing is under way.
BOTH_WAIT = (OPEN_A, OPEN_B)
BOTH_ON = BOTH_WAIT + (BRING_A, BRING_B, BRING_A, BRING_B)


def world(*deeds, **rule):
    """A world in which these deeds were done, one by one."""
    made = World(**rule)
    for deed in deeds:
        made.do(deed)
    return made


def stand(made):
    """All that a world tells, and all that its sides have in them."""
    told = {"deeds": made.deeds(), "len": len(made), "truth": bool(made)}
    for name in "ab":
        told[name] = (made.under_way(name), made.words(name), made.heard(name), inside(made.side(name)))
    return repr(told)


def behind_the_round(store):
    """How many entries stand behind the last round."""
    entries = store.entries()
    behind = 0
    while behind < len(entries) and entries[-1 - behind][0] != "round":
        behind += 1
    return behind


def wild_deed(chance, world, *, resets, cuts, loss):
    """Some deed, None now and then."""
    name, step = chance.choice("ab"), chance.random()
    way = world.under_way(name)
    if step < 0.16:
        return ("tell", name, f"word {len(world.deeds())}")
    if step < 0.5 and world.side(name).state() == "off":
        if cuts and chance.random() < 0.3:
            return ("cut", name, int(behind_the_round(world.side(name).store()) * chance.random()))
        return ("open", name, resets and chance.random() < 0.6)
    if step < 0.17:
        return ("close", name)
    if step < 0.25:
        return ("beat", name)
    if step < 0.26:
        return ("fall",)
    if step < 0.265:
        return ("crash", name)
    if not way:
        return None
    at = chance.randrange(len(way)) if chance.random() < 0.3 else 0
    return (chance.choice(("lose", "double")) if chance.random() < loss else "bring", name, at)


def wild(chance, world, *, resets=False, cuts=False, steps=80, loss=0.1):
    """Some steps of a line that loses, doubles and turns letters, of sides that open, close, fall and are made anew."""
    for _ in range(steps):
        deed = wild_deed(chance, world, resets=resets, cuts=cuts, loss=loss)
        if deed is not None:
            world.do(deed)


def worlds(many, *, resets=False, cuts=False, parts=4):
    """So many worlds that went on wildly, each told some times as it goes on, with its number."""
    for run in range(many):
        chance = random.Random(run)
        makes = (chance.choice(MAKES), chance.choice(MAKES))
        world = World(makes=makes, pause=chance.choice((3, 5, 7)), wide=chance.choice((1, 3, 8)))
        for _ in range(parts):
            loss = chance.choice((0.02, 0.2, 0.6, 0.9))
            wild(chance, world, resets=resets, cuts=cuts, steps=chance.choice((10, 40)), loss=loss)
            for _ in range(chance.choice((0, 0, 0, 12, 25))):
                world.do(("beat", chance.choice("ab")))
            yield run, world


def begun(world):
    """A world of the same rule at its beginning."""
    return World(makes=world._makes, pause=world._pause, wide=world._wide)


def all_unsaid(world, name):
    """All that a side was ever told as unsaid, ahead of each crash and since."""
    rows = ()
    again = begun(world)
    for deed in world.deeds():
        if deed == ("crash", name):
            rows += again.side(name).unsaid()
        again.do(deed)
    return rows + again.side(name).unsaid()


def of_round(rows, turn):
    return [row[1:3] for row in rows if row[0] == turn]


def some_letter(chance, side, sender):
    """Some letter to a side, most of them near what it awaits and has numbered."""
    store = side.store()
    number = max(1, store.next_in() + chance.randrange(-2, 7))
    kind = chance.random() * (0.2 if side.state() == "waits" else 1)
    if kind < 0.12:
        turn = max(0, store.round() + chance.choice((0, 0, 0, 0, 1, -1, 2, -2)))
        wanted = max(1, store.next_out() + chance.randrange(-3, 3))
        past = chance.randrange(0, 5)
        return (sender, 0, False, ("hello", turn, chance.randrange(0, number + 3), wanted, past, chance.random() < 0.5,
                                   chance.random() < 0.5))
    if kind < 0.13:
        return (sender, 0, False, ("bye",))
    if kind < 0.5:
        return (sender, number, chance.random() < 0.5, ("word", chance.choice(("hi", "ho", "7"))))
    if kind < 0.65:
        return (sender, number, True, ("fill", number + chance.randrange(1, 6)))
    if kind < 0.8:
        first = chance.randrange(1, store.next_out() + 2)
        return (sender, number, False, ("ask", first, chance.choice((0, first, first + 2, first + 9))))
    return (sender, number, False, (chance.choice(("test", "beat")), chance.randrange(1, 9)))


def wild_side(chance, name, steps, **rule):
    """A side over a new store that was told, given and brought this and that."""
    side = Side(Store(), name, **rule)
    for _ in range(steps):
        step = chance.random()
        if side.state() == "off" and chance.random() < 0.5:
            side.greet(reset=chance.random() < 0.5)
        elif step < 0.08:
            side.tell(f"word {chance.randrange(9)}")
        elif step < 0.2:
            for _ in range(chance.choice((1, 1, 1, 2, 9))):
                side.beat()
        elif step < 0.22:
            chance.choice((side.fall, side.close))()
        else:
            side.take(some_letter(chance, side, name if chance.random() < 0.03 else OTHER[name]))
    return side


def wild_sides(many, steps=60):
    """So many sides of both makes, each with its name and its rule."""
    for run in range(many):
        chance = random.Random(run)
        rule = {"make": MAKES[run % 2], "pause": chance.choice((3, 4, 5, 8)), "wide": chance.choice((1, 2, 5, 8))}
        name = chance.choice("ab")
        yield wild_side(chance, name, chance.randrange(1, steps), **rule), name, rule
