"""Things of all kinds, to be handed in where something else is told."""


class Hostile:
    """An object that refuses every question put to it."""

    def __eq__(self, other):
        raise RuntimeError("asked for likeness")

    def __hash__(self):
        raise RuntimeError("asked for a hash")

    def __len__(self):
        raise RuntimeError("asked for its length")

    def __bool__(self):
        raise RuntimeError("asked for its truth")

    def __iter__(self):
        raise RuntimeError("asked for its parts")

    def __getitem__(self, at):
        raise RuntimeError("asked for a part")

    def __lt__(self, other):
        raise RuntimeError("asked for order")

    __le__ = __gt__ = __ge__ = __lt__


class Liar(Hostile):
    """An object that says it is a tuple, and is none."""

    __class__ = tuple


class Yes:
    """An object that is like everything."""

    def __eq__(self, other):
        return True

    def __hash__(self):
        return hash("a")


def ten_deep():
    thing = ()
    for _ in range(10):
        thing = (thing,)
    return thing


def strangers():
    """Things that stand nowhere in a letter, each new."""
    return (
        None, -1, 10 ** 40, -(10 ** 40), "", "A", "True", "a\n", "|", b"", b"a", b"word",
        [], [7], ["a"], ["word", "hi"], {}, {"a": 1}, {7: 7}, set(), {"a"}, frozenset(), (), (7,),
        ("a",), (None,), ("word",), (("word", "hi"),), range(7), range(4), len, int, tuple, object(),
        Hostile(), Liar(), Yes(), ten_deep(),
    )


def in_place_of(part):
    """Things that can't stand where this part of a letter stands."""
    for thing in strangers():
        yield thing
    if isinstance(part, bool):
        yield from (0, 1, 7, "yes", "no")
    elif isinstance(part, int):
        yield from (True, False, str(part), "a", (part,), [part], 10001)
    elif isinstance(part, str):
        yield from (True, False, 0, 1, 7, part.upper(), part + "_", part.encode(), list(part), (part,))
    else:
        yield from (True, False, 0, 1, "word", list(part), dict(enumerate(part)), part + (7,), part + part)
        yield from (part[:at] + part[at + 1:] for at in range(len(part)))
        yield from (part + ("hi",), part + (None,), (0,) + part, (part,))


def put_otherwise(thing):
    """All that is this letter with one thing in it, or the whole, put otherwise."""
    yield from in_place_of(thing)
    if isinstance(thing, tuple):
        for at, part in enumerate(thing):
            for other in put_otherwise(part):
                yield thing[:at] + (other,) + thing[at + 1:]


def refused(case, refusal, deed, /, *handed, **named):
    """The refusal of this very class that the deed ends in."""
    try:
        told = deed(*handed, **named)
    except refusal as error:
        case.assertIs(type(error), refusal, (handed, named))
        return error
    case.fail(f"told {told!r} of {handed!r} {named!r}")


def hello(turn=0, top=0, wanted=1, past=0, *, reset=False, reply=False, side="b"):
    """A hello, from the other side where none is named."""
    return (side, 0, False, ("hello", turn, top, wanted, past, reset, reply))


def bye(side="b"):
    return (side, 0, False, ("bye",))


def word(number, text, *, again=False, side="b"):
    return (side, number, again, ("word", text))


def fill(number, behind, *, side="b"):
    return (side, number, True, ("fill", behind))


def own(number, *body, side="b"):
    """A beat, a test or an ask."""
    return (side, number, False, body)
