"""The refusals: three families, under each the refusals of its kind, none under another one."""


class GapError(ValueError):
    """What was handed in isn't as told."""


class NoLetter(GapError):
    """It is no letter."""


class NoText(GapError):
    """It is no text as told; `why` says what is wrong with it."""

    def __init__(self, why="form"):
        super().__init__(f"no text as told: {why}")
        self.why = why


class NoEntry(GapError):
    """It is no entry, or it can't be put."""


class NoCount(GapError):
    """It is no count, or one beyond what is there."""


class NoStore(GapError):
    """It is no store."""


class NoSide(GapError):
    """It is no name of a side."""


class NoAsk(GapError):
    """It is nothing that can be asked for."""


class NoMake(GapError):
    """It is no make of a side."""


class NoPause(GapError):
    """It is no pause."""


class NoWide(GapError):
    """It is no width of a window."""


class NoTruth(GapError):
    """It is no truth."""


class NoDeed(GapError):
    """It is no deed."""


class NoWorld(GapError):
    """It is no world."""


class NoRows(GapError):
    """They are no rows as told; `at` is the first that isn't so, None of no tuple."""

    def __init__(self, at=None):
        super().__init__(f"no rows as told: {at}")
        self.at = at


class NoTrace(GapError):
    """It is no trace as told; `at` is the first row that isn't so, None of no tuple."""

    def __init__(self, at=None):
        super().__init__(f"no trace as told: {at}")
        self.at = at


class NoRow(GapError):
    """It is no row for the desk."""


class PlaceError(LookupError):
    """A place was named where nothing is."""


class NoPlace(PlaceError):
    """No letter under way has this place; `at` is the place."""

    def __init__(self, at=None):
        # The place isn't shown: Python refuses to write a number of thousands of figures.
        super().__init__("no letter under way has this place")
        self.at = at


class StateError(RuntimeError):
    """It can't be done as things stand."""


class Busy(StateError):
    """A side isn't off, as it would have to be."""
