"""The checker's own reading of two books: where what was heard parts from what was said."""

from gapfill.checker_letters import are_parts

SAID = ("round", "number", "text")
HEARD = ("round", "number", "text", "truth")


def _rise(rows, kinds):
    """Whether it is a tuple of rows of these kinds, each above the one before."""
    if type(rows) != tuple or not all([are_parts(row, kinds) for row in rows]):
        return False
    return all([_place(row) < _place(behind) for row, behind in zip(rows, rows[1:])])


def are_books(words, heard):
    """Whether these are two books."""
    return _rise(words, SAID) and _rise(heard, HEARD)


def _place(row):
    return (row[0], row[1])


def parting(words, heard):
    """The first place where two books part, None where they don't: both are gone through side by side."""
    at = 0
    for row in heard:
        # The words of this round that are passed over here are lacking: a later one of it was heard.
        while at < len(words) and _place(words[at]) < _place(row):
            if words[at][0] == row[0]:
                return _place(words[at])
            at += 1
        if at == len(words) or _place(words[at]) != _place(row) or words[at][2] != row[2]:
            return _place(row)
        at += 1
    return None
