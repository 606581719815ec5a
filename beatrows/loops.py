"""Nodes run by one loop, which keeps a cell for each before and each hold."""

from beatrows.asking import BEATS, faults_among, inputs_given, need_rows, plan_of, states_by, values_among
from beatrows.errors import NoBeats, NoCells
from beatrows.words import is_value


class Loop:
    """A run of a node that keeps nothing but its cells."""

    def __init__(self, node):
        self._plan = plan_of(node)
        self._node = node
        self._kept = kept_of(node)
        self._cells = {name: value for name, (value, _) in self._kept.items()}
        self._beats = 0
        self._faults = None

    def rows(self):
        """What is done in a beat: for each name the last name of its clock, and the row that tells it."""
        return [(name, truth, None if row is None else row.told()) for name, truth, row, _ in self._plan]

    def cells(self):
        """The values of the cells, in the node's order."""
        return dict(self._cells)

    def step(self, row):
        """One beat: the values of the names that have one, None where a name faults; of any thing."""
        if self._faults is not None or self._beats == BEATS:
            raise NoBeats(self._beats)
        given = inputs_given(self._node, row, self._beats)
        states = states_by(self._plan, given, lambda told: self._cells[told[1]])
        faults = faults_among(states)
        if faults:
            self._faults = faults
            return None
        # Behind the whole beat only, as befores read the cells of the beat ahead.
        for name, (_, other) in self._kept.items():
            if states[other][0] == "value":
                self._cells[name] = states[other][1]
        self._beats += 1
        return values_among(self._node, states)

    def beats(self):
        """How many beats are done."""
        return self._beats

    def faults(self):
        """How many beats were done, and the names that faulted then; None of a loop that isn't over."""
        if self._faults is None:
            return None
        return (self._beats, list(self._faults))

    def stood_at(self, cells):
        """Another loop of the node, that has done no beat and stands at these cells; of any thing."""
        if not isinstance(cells, dict) or len(cells) != len(self._cells):
            raise NoCells(cells)
        for name in self._cells:
            if not is_value(cells.get(name)):
                raise NoCells(cells)
        other = Loop(self._node)
        other._cells = {name: cells[name] for name in self._cells}
        return other


def run_loop(node, rows):
    """What is told of all done beats, and the faults; refused as Loop, then with NoBeats and NoInput."""
    loop = Loop(node)
    need_rows(rows)
    found = []
    for row in rows:
        told = loop.step(row)
        if told is None:
            break
        found.append(told)
    return (found, loop.faults())


def kept_of(node):
    """For each name that a before or a hold tells the value that its cell has at first, and the name mentioned."""
    kept = {}
    for row in node.rows():
        told = row.told()
        if told[0] in ("before", "hold"):
            kept[told[1]] = (told[2], told[3])
    return kept
