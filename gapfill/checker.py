"""The checker: it takes a claim with its paper, or not."""

from gapfill.checker_books import are_books, parting
from gapfill.checker_letters import is_body, is_part, is_rule, is_same, word_of
from gapfill.checker_records import recorded
from gapfill.checker_sides import first_broken


def _is_trace(rule, trace):
    """Whether there can be a trace by this rule, whatever its rows are."""
    return is_rule(rule) and type(trace) == tuple


def _is_kept(parts, paper):
    if len(parts) != 2 or paper is not None:
        return False
    rule, trace = parts
    return _is_trace(rule, trace) and first_broken(rule, trace) is None


def _breaks(parts, paper):
    if len(parts) != 3 or paper is not None:
        return False
    rule, trace, at = parts
    if not _is_trace(rule, trace) or type(at) != int:
        return False
    return first_broken(rule, trace) == at


def _agree(parts, paper):
    if len(parts) != 2 or paper is not None:
        return False
    words, heard = parts
    return are_books(words, heard) and parting(words, heard) is None


def _parts(parts, paper):
    if len(parts) != 4 or paper is not None:
        return False
    words, heard, turn, number = parts
    if not are_books(words, heard) or type(turn) != int or type(number) != int:
        return False
    return parting(words, heard) == (turn, number)


def _is_filled(parts, paper):
    if len(parts) != 4:
        return False
    entries, name, first, last = parts
    if not is_part(name, "side") or not is_body(("ask", first, last)):
        return False
    record = recorded(entries)
    return record is not None and is_same(paper, tuple(record.answer(name, first, last)))


def _awaits(parts, paper):
    if len(parts) != 3 or paper is not None:
        return False
    entries, turn, number = parts
    record = recorded(entries)
    return record is not None and is_same((turn, number), (record.turn, record.incoming))


CLAIMS = {
    "kept": _is_kept,
    "breaks": _breaks,
    "agree": _agree,
    "parts": _parts,
    "filled": _is_filled,
    "awaits": _awaits,
}


def holds(claim, paper):
    """Whether the claim is taken with this paper."""
    word = word_of(claim)
    if word not in CLAIMS:
        return False
    judged = CLAIMS[word]
    return judged(claim[1:], paper)
