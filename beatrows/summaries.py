"""What a node of a program tells of itself, reckoned by what the nodes below it tell of themselves alone.

Known is here a dict from the names of nodes ahead to tuples (inputs, summary).
"""

from beatrows.clocks import links_of_row, steps_by
from beatrows.errors import Hidden
from beatrows.orders import order_by_reads
from beatrows.reading import read_by, reads_with, ways_from


def known_with(program, name):
    """What is known of a node and of those below it; of any thing, refused as known_below, then as the node."""
    known = known_below(program, name)
    node = program.named(name)
    known[name] = (node.inputs(), summary_within(node, known))
    return known


def known_below(program, name):
    """What is known of the nodes below a node; of any thing, refused with Unknown, then as the first refused one."""
    known = {}
    for each in program.below(name):
        node = program.named(each)
        known[each] = (node.inputs(), summary_within(node, known))
    return known


def summary_within(node, known):
    """The summary of a node; refused with NoFit, NoClock, Ring, and Hidden."""
    clocks = clocks_within(node, known)
    reads = reads_within(node, clocks, known)
    order_by_reads(reads)
    inputs, outs = node.inputs(), node.outs()
    for out in outs:
        for label in clocks[out]:
            if label not in inputs and label not in outs:
                raise Hidden(out, label)
    premises = {name: [] for name in node.names()}
    for name, premise, _ in links_within(node, known):
        premises[name].append(premise)
    return tuple([
        (out, clocks[out], _reached_among(inputs, premises, out), _reached_among(inputs, reads, out))
        for out in outs
    ])


def clocks_within(node, known):
    """The clock of each name of a node, in its order; refused with NoFit and NoClock."""
    names = node.names()
    steps = steps_by(names, node.inputs(), links_within(node, known), groups_within(node))
    return {name: steps[name][1] for name in names}


def links_within(node, known):
    """The links that the rows of a node give, row by row."""
    links = []
    for row in node.rows():
        links.extend(_links_of_call(row, known) if row.is_call() else links_of_row(row))
    return links


def groups_within(node):
    """The names of each same row, and the args of each call."""
    return [row.names() for row in node.rows() if row.is_call() or row.told()[0] == "same"]


def reads_within(node, clocks, known):
    """What each name of a node reads in one beat, all in the node's order."""
    mentioned = {name: [] for name in node.inputs()}
    for row in node.rows():
        if row.is_call():
            mentioned.update(_read_by_call(row, known))
        else:
            mentioned.update({name: read_by(row) for name in row.tells()})
    return reads_with(mentioned, clocks)


def seen_by_call(call, inputs, outs):
    """For each input and each out of a called node the name that stands in its place in the call."""
    _, told, _, given = call.told()
    seen = {}
    for name, outer in zip(inputs, given):
        seen[name] = outer
    for name, outer in zip(outs, told):
        seen[name] = outer
    return seen


def _links_of_call(call, known):
    seen, summary = _seen_and_summary(call, known)
    links = []
    for out, labels, follows, _ in summary:
        behind = tuple([seen[label] for label in labels])
        links.extend([(seen[out], seen[name], behind) for name in follows])
    return links


def _read_by_call(call, known):
    """For each name that a call tells the args that it reads."""
    seen, summary = _seen_and_summary(call, known)
    return {seen[out]: [seen[name] for name in hangs] for out, _, _, hangs in summary}


def _seen_and_summary(call, known):
    _, _, called, _ = call.told()
    inputs, summary = known[called]
    return seen_by_call(call, inputs, [part[0] for part in summary]), summary


def _reached_among(inputs, nexts, name):
    """Those of the inputs to which one comes from a name, by a dict from each name to those next to it."""
    came = ways_from(nexts, name)
    return tuple([each for each in inputs if each in came])
