"""The checker of runs: whether a thing is what a node comes to, beat by beat."""

from beatrows.asking import Asker, need_rows
from beatrows.words import are_alike, is_whole


def is_run(node, rows, thing):
    """Whether any thing is the run by asking of a node and rows; refused as run_by_asking."""
    asker = Asker(node)
    need_rows(rows)
    if not isinstance(thing, tuple) or len(thing) != 2:
        return False
    told, faults = thing
    if not isinstance(told, list) or len(told) > len(rows):
        return False
    for beat, row in enumerate(rows):
        if not asker.give(row):
            return beat == len(told) and _are_faults(faults, asker.faults())
        if beat == len(told) or not _is_row(told[beat], asker.row(beat)):
            return False
    return faults is None


def _is_row(thing, row):
    """Whether any thing is a dict with just these values; a truth is no number."""
    if not isinstance(thing, dict) or len(thing) != len(row):
        return False
    for name in row:
        if name not in thing or not are_alike(thing[name], row[name]):
            return False
    return True


def _are_faults(thing, faults):
    """Whether any thing is equal to these faults; the number of the beat is no truth."""
    return thing == faults and is_whole(thing[0])
