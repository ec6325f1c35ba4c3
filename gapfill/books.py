"""Books: the words that one side numbered against those that the other one heard, and where they part."""

from gapfill.bounds import MOST_NUMBER, MOST_ROUND
from gapfill.errors import NoRows
from gapfill.letters import is_text, is_truth, is_whole


def _is_placed(row, many):
    """Whether it is a tuple of so many parts, a round, a number and a text first."""
    if type(row) != tuple or len(row) != many:
        return False
    return is_whole(row[0], 0, MOST_ROUND) and is_whole(row[1], 1, MOST_NUMBER) and is_text(row[2])


def _is_word(row):
    return _is_placed(row, 3)


def _is_heard(row):
    return _is_placed(row, 4) and is_truth(row[3])


def _need_rising(rows, fits):
    """Refuse what isn't a tuple of such rows, each above the one before."""
    if type(rows) != tuple:
        raise NoRows(None)
    last = (0, 0)
    for at, row in enumerate(rows):
        if not fits(row) or row[:2] <= last:
            raise NoRows(at)
        last = row[:2]


def parted(words, heard):
    """The first round and number where the words and those that were heard part, None where they don't."""
    _need_rising(words, _is_word)
    _need_rising(heard, _is_heard)
    texts = {row[:2]: row[2] for row in words}
    places = {row[:2]: True for row in heard}
    # The rows rise: so what stands here in the end is the last number of each round.
    latest = {row[0]: row[1] for row in heard}
    otherwise = [row[:2] for row in heard if texts.get(row[:2]) != row[2]]
    lacking = [row[:2] for row in words if row[:2] not in places and row[1] < latest.get(row[0], 0)]
    return min(otherwise + lacking, default=None)
