"""Stores as texts: how a row for each entry is read again."""

from gapfill.errors import NoEntry, NoText
from gapfill.parts import read_part
from gapfill.stores import Store

# How many of a row's parts, behind its word, are texts; the others are numbers and truths.
TEXTS_AHEAD = {"tell": 1, "heard": 1}


def _read_row(row):
    """What is so written, an entry or not."""
    word, *parts = row.split(",")
    many = TEXTS_AHEAD.get(word, 0)
    return (word,) + tuple(parts[:many]) + tuple([read_part(part) for part in parts[many:]])


def read_store(text):
    """The store that is so written."""
    if type(text) != str:
        raise NoText(0)
    store = Store()
    rows = text.split("\n") if text != "" else []
    for at, row in enumerate(rows):
        try:
            store.put(_read_row(row))
        except NoEntry:
            raise NoText(at) from None
    return store
