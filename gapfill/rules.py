"""The rules that a side goes by, its make, its pause and its width: which ones there are."""

from gapfill.bounds import LEAST_PAUSE, LEAST_WIDE, MOST_PAUSE, MOST_WIDE, PLAIN, WINDOWED
from gapfill.errors import NoMake, NoPause, NoWide
from gapfill.letters import is_whole


def need_make(thing):
    """Refuse what is no make."""
    if type(thing) != str or thing not in (PLAIN, WINDOWED):
        raise NoMake("this is no make of a side")


def need_makes(thing):
    """Refuse what isn't the makes of two sides."""
    if type(thing) != tuple or len(thing) != 2:
        raise NoMake("these are no makes of two sides")
    for make in thing:
        need_make(make)


def need_pause(thing):
    """Refuse what is no pause."""
    if not is_whole(thing, LEAST_PAUSE, MOST_PAUSE):
        raise NoPause("this is no pause")


def need_wide(thing):
    """Refuse what is no width."""
    if not is_whole(thing, LEAST_WIDE, MOST_WIDE):
        raise NoWide("this is no width of a window")
