"""Windows: which kept letter is taken next, which ones stay, and what must still be asked for.

What is kept is a dict of letters by their numbers.
"""

from gapfill.letters import reach


def next_kept(kept, awaited):
    """The number of the kept letter to be taken next, None where there is none."""
    if awaited in kept:
        return awaited
    for number in sorted(kept):
        if number < awaited < reach(kept[number]):
            return number
    return None


def reaching_beyond(kept, awaited):
    """Those of the kept letters that reach beyond the awaited number."""
    return {number: kept[number] for number in kept if reach(kept[number]) > awaited}


def runs_without(kept, awaited, seen):
    """(FIRST, LAST) of each run of numbers, from the awaited one to the greatest seen, that no kept letter has."""
    runs = []
    first = awaited
    for number in sorted(kept):
        if first < number:
            runs.append((first, number - 1))
        first = max(first, reach(kept[number]))
    if first <= seen:
        runs.append((first, seen))
    return runs
