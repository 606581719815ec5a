"""Nodes: a name, inputs, outs and rows."""

from beatrows.equations import equation_of
from beatrows.errors import BeatError, NoName, NoNode, NoOut, NoRead, Twice, Unknown
from beatrows.words import is_name, is_pointed


class Node:
    """A node; it never changes. Its name is a field."""

    def __init__(self, name, inputs, outs, rows):
        if not is_name(name):
            raise NoName(name)
        self.name = name
        self._inputs = _names_kept(inputs)
        self._outs = _names_kept(outs)
        self._rows = _rows_kept(rows)
        self._tellers = _tellers_of(self._inputs, self._rows)
        _need_known(self._rows, self._tellers)
        _need_outs(self._outs, self._tellers)

    def inputs(self):
        return list(self._inputs)

    def outs(self):
        return list(self._outs)

    def names(self):
        """All names, in the node's order."""
        return list(self._tellers)

    def rows(self):
        return list(self._rows)

    def teller(self, name):
        """The equation that tells a name, None for an input; of any thing."""
        # Looked at ahead of the dict, which takes no lists and dicts as keys.
        if not is_pointed(name) or name not in self._tellers:
            raise Unknown(name)
        return self._tellers[name]

    def has_calls(self):
        return any([row.is_call() for row in self._rows])

    def told(self):
        return (self.name, self._inputs, self._outs, tuple([row.told() for row in self._rows]))


def node_of(told):
    """The node that any thing tells; refused with NoNode of the whole thing."""
    if not isinstance(told, tuple) or len(told) != 4:
        raise NoNode(told)
    name, inputs, outs, rows = told
    if not all([isinstance(part, tuple) for part in (inputs, outs, rows)]):
        raise NoNode(told)
    try:
        return Node(name, inputs, outs, rows)
    except BeatError:
        raise NoNode(told) from None


def same_node(one, other):
    """Whether two nodes tell the same."""
    # Tuples with True and with 1 are equal; their texts are not.
    return repr(one.told()) == repr(other.told())


def _names_kept(things):
    if not isinstance(things, (list, tuple)) or not things:
        raise NoNode(things)
    kept = {}
    for thing in things:
        if not is_pointed(thing):
            raise NoName(thing)
        if thing in kept:
            raise Twice(thing)
        kept[thing] = True
    return tuple(kept)


def _rows_kept(things):
    if not isinstance(things, (list, tuple)):
        raise NoNode(things)
    kept = []
    for thing in things:
        row = equation_of(thing)
        # Rows that are not plain mention a name at least.
        if not row.names():
            raise NoRead(row.tells()[0])
        kept.append(row)
    return tuple(kept)


def _tellers_of(inputs, rows):
    """The equation of each name, None of an input, in the node's order."""
    tellers = {name: None for name in inputs}
    for row in rows:
        for name in row.tells():
            if name in tellers:
                raise Twice(name)
            tellers[name] = row
    return tellers


def _need_known(rows, tellers):
    for row in rows:
        for name in row.names():
            if name not in tellers:
                raise Unknown(name)


def _need_outs(outs, tellers):
    for out in outs:
        if tellers.get(out) is None:
            raise NoOut(out)
