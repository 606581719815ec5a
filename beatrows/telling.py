"""What a node of a program tells of itself: a summary for each out, and how many cells it has."""

from beatrows.summaries import known_with


def summary_of(program, name):
    """For each out its labels, the inputs from which it follows, and those on which it hangs.

    Of any thing; refused as the nodes below, then as the node is for its
    clocks, for a ring, and with Hidden.
    """
    return known_with(program, name)[name][1]


def cells_in(program, name):
    """How many cells a node has; of any thing, refused with Unknown alone."""
    many = {}
    for each in [*program.below(name), name]:
        rows = program.named(each).rows()
        many[each] = len([row for row in rows if row.told()[0] in ("before", "hold")])
        many[each] += sum([many[called] for _, called in program.calls_in(each)])
    return many[name]
