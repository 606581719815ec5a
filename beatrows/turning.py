"""Programs whose rows or nodes are in another order."""

from beatrows.errors import NoOrder
from beatrows.nodes import Node
from beatrows.programs import Program
from beatrows.words import is_within


def turned(program, name, places):
    """The program with the rows of a node in the order of these places; refused with Unknown and NoOrder."""
    rows = program.named(name).rows()
    _need_order(places, len(rows))
    nodes = []
    for each in program.names():
        node = program.named(each)
        if each == name:
            node = Node(each, node.inputs(), node.outs(), [rows[place].told() for place in places])
        nodes.append(node)
    return Program(nodes)


def nodes_turned(program, places):
    """The program with its nodes in the order of these places; refused with NoOrder and NoCall."""
    names = program.names()
    _need_order(places, len(names))
    return Program([program.named(names[place]) for place in places])


def same_but_order(one, other):
    """Whether two programs are the same but for the order of their nodes and rows."""
    return _told_in_order(one) == _told_in_order(other)


def _need_order(things, many):
    """Refused with NoOrder of what is no list and no tuple with each number below so many once."""
    if not isinstance(things, (list, tuple)) or len(things) != many:
        raise NoOrder(things)
    found = {}
    for place in things:
        if not is_within(place, 0, many - 1) or place in found:
            raise NoOrder(things)
        found[place] = True


def _told_in_order(program):
    """For each node what it is made of, as texts, the rows in the order of these."""
    # As texts, as tuples with True and with 1 are equal.
    told = {}
    for name in program.names():
        node = program.named(name)
        rows = sorted([repr(row.told()) for row in node.rows()])
        told[name] = [" ".join(node.inputs()), " ".join(node.outs()), rows]
    return told
