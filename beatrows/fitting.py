"""Nodes of a program fitted together: their clocks and readings, where called nodes are known by summaries alone.

All is told of a node by its name, of any thing; refused with Unknown, then as
the first node below it that is refused, then as the node itself.
"""

from beatrows.clockpapers import clashes
from beatrows.orders import is_order_by_reads, is_ring_by_reads, order_by_reads
from beatrows.summaries import clocks_within, groups_within, known_below, links_within, reads_within


def clocks_by(program, name):
    """The clock of each of the node's own names, in its order."""
    return _clocks_and_reads(program, name)[0]


def reads_by(program, name):
    """The names that each of them reads in one beat."""
    return _clocks_and_reads(program, name)[1]


def order_by(program, name):
    """An order of them; refused with Ring, too."""
    return order_by_reads(reads_by(program, name))


def sound_by(program, name):
    """Their clocks, and an order of them; refused with Ring, too."""
    clocks, reads = _clocks_and_reads(program, name)
    return (clocks, order_by_reads(reads))


def is_clash_by(program, name, thing):
    """Whether any thing is a clash of the node, whatever this is refused by itself."""
    known = known_below(program, name)
    node = program.named(name)
    return clashes(node.inputs(), links_within(node, known), groups_within(node), thing)


def is_order_by(program, name, thing):
    """Whether any thing is an order of the node's own names."""
    return is_order_by_reads(reads_by(program, name), thing)


def is_ring_by(program, name, thing):
    """Whether any thing is a ring of them."""
    return is_ring_by_reads(reads_by(program, name), thing)


def _clocks_and_reads(program, name):
    known = known_below(program, name)
    node = program.named(name)
    clocks = clocks_within(node, known)
    return (clocks, reads_within(node, clocks, known))
