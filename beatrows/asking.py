"""Nodes run by asking, beat by beat, each name for its equation."""

from beatrows.errors import NoBeats, NoCall, NoInput, NoNode
from beatrows.nodes import Node
from beatrows.orders import need_sound
from beatrows.reading import reads_of
from beatrows.words import is_value, is_within

BEATS = 200


class Asker:
    """A run of a node that keeps the values of all told beats."""

    def __init__(self, node):
        self._plan = plan_of(node)
        self._node = node
        self._told = []
        self._latest = {}
        self._faults = None

    def give(self, row):
        """One beat more: True, or False where a name faults at it; of any thing."""
        if self._faults is not None:
            raise NoBeats(len(self._told) + 1)
        if len(self._told) == BEATS:
            raise NoBeats(BEATS)
        given = inputs_given(self._node, row, len(self._told))
        states = states_by(self._plan, given, lambda told: self._latest.get(told[3], told[2]))
        faults = faults_among(states)
        if faults:
            self._faults = faults
            return False
        values = values_among(self._node, states)
        self._told.append(values)
        self._latest.update(values)
        return True

    def beats(self):
        """How many beats are told."""
        return len(self._told)

    def value(self, name, beat):
        """The value of a name at a told beat, None where it is still; of any things."""
        self._node.teller(name)
        return self._row_at(beat).get(name)

    def row(self, beat):
        """The values at a told beat, in the node's order; of any thing."""
        return dict(self._row_at(beat))

    def outs_at(self, beat):
        """Likewise of the outs alone, in their order."""
        row = self._row_at(beat)
        return {out: row[out] for out in self._node.outs() if out in row}

    def stream(self, name):
        """The value of a name at each told beat, None where it is still; of any thing."""
        self._node.teller(name)
        return [row.get(name) for row in self._told]

    def faults(self):
        """The number of the beat at which the run was over, and the names that faulted; None of a run that isn't."""
        if self._faults is None:
            return None
        return (len(self._told), list(self._faults))

    def _row_at(self, beat):
        if not is_within(beat, 0, len(self._told) - 1):
            raise NoBeats(beat)
        return self._told[beat]


def run_by_asking(node, rows):
    """The rows of all told beats, and the faults; refused as Asker, then with NoBeats and NoInput."""
    asker = Asker(node)
    need_rows(rows)
    for row in rows:
        if not asker.give(row):
            break
    return ([asker.row(beat) for beat in range(asker.beats())], asker.faults())


def plan_of(thing):
    """What is gone through in a beat of a node; of any thing, refused as an Asker of it.

    For each name, behind all that it reads, a tuple: the name, the last name
    of its clock or None, the row that tells it or None, and what it reads.
    """
    if not isinstance(thing, Node):
        raise NoNode(thing)
    for row in thing.rows():
        if row.is_call():
            _, _, called, _ = row.told()
            raise NoCall(called)
    clocks, order = need_sound(thing)
    reads = reads_of(thing, clocks)
    truths = {name: clocks[name][-1] if clocks[name] else None for name in order}
    return [(name, truths[name], thing.teller(name), reads[name]) for name in order]


def need_rows(rows):
    """Refused with NoBeats of what is no list and no tuple of as many rows as there may be beats."""
    if not isinstance(rows, (list, tuple)) or len(rows) > BEATS:
        raise NoBeats(rows)


def inputs_given(node, row, beat):
    """The values of the inputs by a row, any thing, of the beat of this number; refused with NoInput."""
    given = {}
    for name in node.inputs():
        if not isinstance(row, dict) or not is_value(row.get(name)):
            raise NoInput(name, beat)
        given[name] = row[name]
    return given


def states_by(plan, given, kept):
    """What each name is at a beat: by name a tuple of a word and of a value or another word.

    The words are value, fault, still and lost; kept is a function that gives
    what a before or a hold, by its tuple, has kept of the beats ahead.
    """
    states = {}
    for name, truth, row, reads in plan:
        states[name] = ("value", given[name]) if row is None else state_by(truth, row, reads, states, kept)
    return states


def state_by(truth, row, reads, states, kept):
    """Likewise what one name is that a row tells, by what the names are that it reads."""
    if truth is not None and is_gone(states[truth]):
        return ("lost", None)
    if truth is not None and states[truth][1] is not True:
        return ("still", None)
    if any([is_gone(states[other]) for other in reads]):
        return ("lost", None)
    return _state_by_row(row, states, kept)


def is_gone(state):
    """Whether a name is lost or faults."""
    return state[0] in ("lost", "fault")


def values_among(node, states):
    """The values of the names that have one, in the node's order."""
    return {name: states[name][1] for name in node.names() if states[name][0] == "value"}


def faults_among(states):
    """The names that fault, each with its word, in the order of texts."""
    return sorted([(name, states[name][1]) for name in states if states[name][0] == "fault"])


def _state_by_row(row, states, kept):
    """What a name is that ticks, and that reads nothing that is lost or faults."""
    term = row.term()
    if term is not None:
        value, word = term.reckoned_by(lambda name: states[name][1])
        return ("value", value) if word is None else ("fault", word)
    told = row.told()
    if told[0] == "when":
        return states[told[2]]
    if told[0] == "like":
        return ("value", told[2])
    if told[0] == "hold" and states[told[3]][0] == "value":
        return states[told[3]]
    return ("value", kept(told))
