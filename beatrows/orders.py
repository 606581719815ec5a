"""An order of the names within a beat, or a ring of names that read one another."""

from beatrows.clocks import clocks_of
from beatrows.errors import Ring
from beatrows.reading import is_walk, reads_of


def order_of(node, clocks):
    """The names, each behind all that it reads; refused with Ring."""
    return order_by_reads(reads_of(node, clocks))


def ranks_of(node, clocks):
    """The rank of each name, in the node's order; refused with Ring."""
    reads = reads_of(node, clocks)
    ranks = {}
    for name in order_by_reads(reads):
        ranks[name] = max([ranks[other] + 1 for other in reads[name]], default=0)
    return {name: ranks[name] for name in reads}


def is_order(node, clocks, thing):
    """Whether any thing is an order of the node."""
    return is_order_by_reads(reads_of(node, clocks), thing)


def is_ring(node, clocks, thing):
    """Whether any thing is a ring of the node."""
    return is_ring_by_reads(reads_of(node, clocks), thing)


def need_sound(node):
    """The clocks and an order of a node; refused as clocks_of, then with Ring."""
    clocks = clocks_of(node)
    return (clocks, order_of(node, clocks))


def is_order_by_reads(reads, thing):
    """Whether any thing is an order of the names of a dict from each one to those that it reads."""
    if not isinstance(thing, list) or len(thing) != len(reads):
        return False
    ahead = {}
    for name in thing:
        if not isinstance(name, str) or name not in reads or name in ahead:
            return False
        if not _are_all_in(reads[name], ahead):
            return False
        ahead[name] = True
    return True


def is_ring_by_reads(reads, thing):
    """Whether any thing is a ring of them."""
    if not isinstance(thing, list) or not is_walk(reads, thing):
        return False
    return thing[0] in reads[thing[-1]]


def order_by_reads(reads):
    """An order of them; refused with Ring."""
    ahead = {}
    waiting = list(reads)
    while waiting:
        left = []
        for name in waiting:
            if _are_all_in(reads[name], ahead):
                ahead[name] = True
            else:
                left.append(name)
        if len(left) == len(waiting):
            raise Ring(_ring_from(reads, ahead, left[0]))
        waiting = left
    return list(ahead)


def _ring_from(reads, ahead, name):
    """A ring to which one comes from a name, by names of which each reads one that isn't ahead."""
    passed = []
    while name not in passed:
        passed.append(name)
        name = [other for other in reads[name] if other not in ahead][0]
    return passed[passed.index(name):]


def _are_all_in(names, ahead):
    return all([name in ahead for name in names])
