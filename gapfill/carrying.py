"""Lines that carry: how a world goes on by them, what is due in it, and within how many beats it is heard."""

from gapfill.bounds import SIDES
from gapfill.errors import NoCount
from gapfill.letters import is_whole
from gapfill.sides import OFF, ON, WAITS
from gapfill.worlds import OTHER, need_world

MOST_BEATS = 200


def carried(world, *, beats=1):
    """A world that went on from this one, by so many beats of a line that carries."""
    need_world(world)
    if not is_whole(beats, 0, MOST_BEATS):
        raise NoCount("this is no number of beats")
    other = world.twin()
    for _ in range(beats):
        _carry(other)
    return other


def _carry(world):
    """Let one beat pass."""
    # The second opening may make the first side fall.
    for name in ("a", "b", "a"):
        if world.state(name) == OFF:
            world.do(("open", name, False))
    world.do(("beat", "a"))
    world.do(("beat", "b"))
    # What a sends as it is brought those from b stays under way: it was not there when those from a were counted.
    for name in SIDES:
        for _ in range(len(world.under_way(name))):
            world.do(("bring", name, 0))


def _due_from(sender, receiver):
    """How many words of the sender wait, or the receiver awaits or has still to."""
    store, other = sender.store(), receiver.store()
    waiting = len(store.waiting())
    if other.round() > store.round():
        return waiting
    unheard = other.next_in() if other.round() == store.round() else 1
    return waiting + len([number for number, _ in store.words() if number >= unheard])


def due(world):
    """How many words aren't heard yet."""
    need_world(world)
    a, b = world.side("a"), world.side("b")
    return _due_from(a, b) + _due_from(b, a)


def beats_due(world):
    """Within how many beats of a line that carries all is heard."""
    if due(world) == 0:
        return 0
    pause = world.pause()
    if any([_falls_in(world, name, 1) for name in SIDES]):
        return pause + 7
    if any([_falls_in(world, name, 2) and not world.under_way(OTHER[name]) for name in SIDES]):
        return pause + 8
    if all([world.state(name) == ON for name in SIDES]):
        return max([_beats_from(world, name) for name in SIDES])
    return pause + 5 if all([_comes_up(world, name) for name in SIDES]) else pause + 6


def _falls_in(world, name, beats):
    """Whether so many beats of this side would make it fall, if nothing came."""
    side = world.side(name)
    return side.state() != OFF and side.quiet() == 3 * world.pause() - beats


def _comes_up(world, name):
    """Whether the side is on, or waits and has a hello under way to it."""
    if world.state(name) != WAITS:
        return world.state(name) == ON
    return any([letter[3][0] == "hello" for letter in world.under_way(OTHER[name])])


def _lacks(side):
    """Whether it has seen that it lacks something."""
    return side.seen() >= side.store().next_in()


def _beats_from(world, name):
    """Within how many beats all words of this side are heard, where both are on."""
    sender, receiver = world.side(name), world.side(OTHER[name])
    if _due_from(sender, receiver) == 0:
        return 0
    lacks = _lacks(receiver)
    for letter in world.under_way(name):
        receiver.take(letter)
    if _due_from(sender, receiver) == 0:
        return 1
    if lacks:
        return 3
    if _lacks(receiver):
        return 4
    return world.pause() + 4 - sender.idle()
