"""Programs with other names, and rows and clocks under these."""

from beatrows.errors import NoName, Twice
from beatrows.nodes import Node
from beatrows.programs import Program
from beatrows.words import is_name
from beatrows.writing import written_out


def renamed(program, nodes, names):
    """The program with other names of nodes, and of names within them; refused with NoName, Unknown, and Twice."""
    called = _nodes_called(program, nodes)
    within = _names_within(program, names)
    return Program([_node_renamed(program.named(name), called, within[name]) for name in program.names()])


def names_behind(program, name, names):
    """For each name of a node written out the one that it has where the program is renamed by names.

    Refused as written_out, then as renamed is by names.
    """
    ahead = written_out(program, name)
    behind = written_out(renamed(program, {}, names), name)
    return {one: other for one, other in zip(ahead.names(), behind.names())}


def named_row(row, names):
    """A row with its names exchanged, in its order; refused with Twice."""
    found = {}
    for name, thing in row.items():
        other = names.get(name, name)
        if other in found:
            raise Twice(other)
        found[other] = thing
    return found


def named_clock(clock, names):
    """A clock with its names exchanged."""
    return tuple([names.get(name, name) for name in clock])


def _nodes_called(program, nodes):
    """The new name of each node, by its name."""
    if not isinstance(nodes, dict):
        raise NoName(nodes)
    for name, other in nodes.items():
        program.named(name)
        _need_name(other)
    return _each_once_named(program.names(), nodes)


def _names_within(program, names):
    """For each node the new name of each of its names."""
    if not isinstance(names, dict):
        raise NoName(names)
    found = {}
    for name, others in names.items():
        node = program.named(name)
        if not isinstance(others, dict):
            raise NoName(others)
        for own, other in others.items():
            node.teller(own)
            _need_name(other)
        found[name] = _each_once_named(node.names(), others)
    for name in program.names():
        if name not in found:
            found[name] = {own: own for own in program.named(name).names()}
    return found


def _need_name(thing):
    if not is_name(thing):
        raise NoName(thing)


def _each_once_named(names, others):
    """For each of the names the other one, or itself where it has none; refused with Twice."""
    found = {}
    taken = {}
    for name in names:
        other = others.get(name, name)
        if other in taken:
            raise Twice(other)
        taken[other] = True
        found[name] = other
    return found


def _node_renamed(node, called, names):
    inputs = [names[name] for name in node.inputs()]
    outs = [names[name] for name in node.outs()]
    return Node(called[node.name], inputs, outs, [_row_renamed(row, called, names) for row in node.rows()])


def _row_renamed(row, called, names):
    """What a row tells under the new names, a call also under that of the node that it calls."""
    told = row.renamed(names).told()
    if not row.is_call():
        return told
    word, outs, name, given = told
    return (word, outs, called[name], given)
