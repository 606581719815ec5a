"""Clocks: at which beats each name has values, and the steps by which this follows.

A link is a tuple (name, premise, labels): from a step of the premise on a
clock the name follows on that clock and the labels behind it; where labels is
None, on that clock without its last name.
"""

from beatrows.errors import NoClock, NoFit


def clocks_of(node):
    """The clock of each name, in the node's order; refused with NoFit and NoClock."""
    steps = _steps_of(node)
    return {name: steps[name][1] for name in node.names()}


def clock_paper(node):
    """Steps, one for each name, each behind its premise; refused as clocks_of."""
    return list(_steps_of(node).values())


def ticks(clock, values):
    """Whether a clock ticks at the beat of these values."""
    return all([values.get(name) is True for name in clock])


def names_by_clock(node):
    """Each clock with the names that are on it, in the node's order; refused as clocks_of."""
    found = {}
    for name, clock in clocks_of(node).items():
        found.setdefault(clock, []).append(name)
    return list(found.items())


def clock_beside(node, one, other):
    """How the clock of one name is to that of another one; refused as clocks_of, then with Unknown."""
    clocks = clocks_of(node)
    node.teller(one)
    node.teller(other)
    first, second = clocks[one], clocks[other]
    if first == second:
        return "alike"
    if first[:len(second)] == second:
        return "slower"
    if second[:len(first)] == first:
        return "faster"
    return "apart"


def links_of(node):
    """The links that the rows of a node without calls give, row by row."""
    links = []
    for row in node.rows():
        links.extend(links_of_row(row))
    return links


def links_of_row(row):
    """The links that a row gives that is no call."""
    told = row.told()
    if told[0] == "same":
        return []
    labels = _labels_of(told)
    return [(told[1], name, labels) for name in row.names()]


def groups_of(node):
    """The names of each same row."""
    return [row.names() for row in node.rows() if row.told()[0] == "same"]


def led_to(clock, labels):
    """The clock to which a link with these labels leads, None where it leads to none."""
    if labels is not None:
        return clock + labels
    return clock[:-1] if clock else None


def steps_by(names, inputs, links, groups):
    """One step for each of the names, by name, each behind its premise.

    Refused with NoFit of a clash of two or hold, with NoClock, and with NoFit
    where names of one group are on unlike clocks.
    """
    steps = _followed(inputs, links)
    for name in names:
        if name not in steps:
            raise NoClock(name)
    for one, *others in groups:
        for other in others:
            if steps[one][1] != steps[other][1]:
                raise NoFit(("same", _steps_to(steps, [one, other]), one, other))
    return steps


def _steps_of(node):
    return steps_by(node.names(), node.inputs(), links_of(node), groups_of(node))


def _labels_of(told):
    if told[0] == "hold":
        return None
    return told[3:] if told[0] == "when" else ()


def _followed(inputs, links):
    """The first step that follows for each name, by name; refused with NoFit of two or hold."""
    behind = {}
    for link in links:
        behind.setdefault(link[1], []).append(link)
    steps = {name: (name, (), None) for name in inputs}
    waiting = list(inputs)
    at = 0
    # One step for each name will do: where a second one is on another clock, nothing fits.
    while at < len(waiting):
        ahead = waiting[at]
        for name, premise, labels in behind.get(ahead, []):
            clock = led_to(steps[premise][1], labels)
            if clock is None:
                raise NoFit(("hold", _steps_to(steps, [premise]), name, premise))
            if name not in steps:
                steps[name] = (name, clock, premise)
                waiting.append(name)
            elif steps[name][1] != clock:
                step = (name, clock, premise)
                raise NoFit(("two", [*_steps_to(steps, [name, premise]), step], name, name))
        at += 1
    return steps


def _steps_to(steps, names):
    """Those of the steps on which these names rest, in their order."""
    needed = {}
    for name in names:
        each = name
        while each is not None and each not in needed:
            needed[each] = True
            each = steps[each][2]
    return [step for name, step in steps.items() if name in needed]
