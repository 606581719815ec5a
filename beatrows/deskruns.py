"""Runs of a node as a desk has them: by asking, by a loop, or by a part."""

from beatrows.asking import BEATS, Asker, inputs_given
from beatrows.desklines import pairs_of
from beatrows.errors import NoBeats, NoCells, Unknown
from beatrows.loops import Loop
from beatrows.parts import Part
from beatrows.telling import summary_of
from beatrows.words import is_within, value_text
from beatrows.writing import written_out


class ByAsking:
    """A way of running: told is of each beat a tuple of its row and of the names that fault."""

    def __init__(self, node):
        self._asker = Asker(node)

    def done(self, given):
        if self._asker.give(given):
            return (self._asker.row(self._asker.beats() - 1), [])
        return ({}, self._asker.faults()[1])

    def cells(self):
        """The cells; refused with NoCells, as there are none."""
        raise NoCells(None)


class ByLoop:
    """Likewise by a loop."""

    def __init__(self, loop):
        self.loop = loop

    def done(self, given):
        row = self.loop.step(given)
        return ({}, self.loop.faults()[1]) if row is None else (row, [])

    def cells(self):
        return self.loop.cells()


class ByPart:
    """Likewise by a part."""

    def __init__(self, part):
        self._part = part

    def done(self, given):
        self._part.begin(True)
        for name, value in given.items():
            self._part.give(name, value)
        faults = self._part.close()
        return ({}, faults) if faults else (self._part.row(), [])

    def cells(self):
        return self._part.cells()


class Run:
    """A run of a node, whichever way it goes; its answers are lists of texts."""

    def __init__(self, node, way):
        self._node = node
        self._way = way
        self._told = []
        self._faults = []

    def step(self, told):
        """One beat by names and values; refused with Twice, Unknown, NoBeats, and NoInput."""
        values = pairs_of(told)
        for name in values:
            if name not in self._node.inputs():
                raise Unknown(name)
        many = len(self._told)
        if self._faults or many == BEATS:
            raise NoBeats(many)
        row, self._faults = self._way.done(inputs_given(self._node, values, many))
        if self._faults:
            return [f"fault {name} {word}" for name, word in self._faults]
        self._told.append(row)
        return _texts_of(row)

    def beats(self):
        return [str(len(self._told))]

    def faults(self):
        if not self._faults:
            return []
        return [str(len(self._told)), *[f"{name} {word}" for name, word in self._faults]]

    def value(self, name, beat):
        """Refused with Unknown, and NoBeats."""
        self._node.teller(name)
        if not is_within(beat, 0, len(self._told) - 1):
            raise NoBeats(beat)
        row = self._told[beat]
        return [value_text(row[name]) if name in row else "still"]

    def cells(self):
        """Refused with NoCells."""
        return _texts_of(self._way.cells())

    def stood(self, told):
        """Another run, by the loop that stands at cells of these names and values; refused with NoCells and Twice."""
        if not isinstance(self._way, ByLoop):
            raise NoCells(None)
        return Run(self._node, ByLoop(self._way.loop.stood_at(pairs_of(told))))


def run_begun(program, word, name):
    """A run of a node written out: ask, loop, or part."""
    if word == "part":
        # Refused as a part is, ahead of writing out, which sees to it that the part isn't too large.
        summary_of(program, name)
        node = written_out(program, name)
        return Run(node, ByPart(Part(program, name)))
    node = written_out(program, name)
    return Run(node, ByAsking(node) if word == "ask" else ByLoop(Loop(node)))


def _texts_of(row):
    return [f"{name} {value_text(value)}" for name, value in row.items()]
