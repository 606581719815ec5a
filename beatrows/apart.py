"""Two loops of one node, and the first beat at which they go apart."""

from beatrows.asking import need_rows
from beatrows.loops import Loop
from beatrows.words import are_alike


def goes_apart(node, one, other, rows):
    """The first beat at which loops that stand at these cells tell unlike things, and the names; or None.

    Refused as Loop, with NoCells of the one and of the other, then with
    NoBeats and NoInput.
    """
    loop = Loop(node)
    first, second = loop.stood_at(one), loop.stood_at(other)
    need_rows(rows)
    for beat, row in enumerate(rows):
        told, beside = first.step(row), second.step(row)
        if told is None or beside is None:
            told, beside = _faults_of(first), _faults_of(second)
        names = [name for name in node.names() if _are_unlike(told, beside, name)]
        if names:
            return (beat, names)
        if first.faults() is not None:
            return None
    return None


def _faults_of(loop):
    """The word of each name that faulted."""
    faults = loop.faults()
    return {} if faults is None else dict(faults[1])


def _are_unlike(told, beside, name):
    if name not in told or name not in beside:
        return name in told or name in beside
    return not are_alike(told[name], beside[name])
