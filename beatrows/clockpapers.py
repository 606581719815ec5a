"""Checkers of papers about clocks: they believe no step that doesn't follow."""

from beatrows.clocks import groups_of, led_to, links_of


def is_clock_paper(node, thing):
    """Whether any thing is a paper for the clocks of a node."""
    names, links = node.names(), links_of(node)
    found = clocks_told(node.inputs(), links, thing)
    if found is None or len(thing) != len(names) or len(found) != len(names):
        return False
    clocks = {name: found[name][0] for name in names}
    for name, premise, labels in links:
        if led_to(clocks[premise], labels) != clocks[name]:
            return False
    return all([clocks[name] == clocks[group[0]] for group in groups_of(node) for name in group])


def is_clash(node, thing):
    """Whether any thing is a clash of a node."""
    return clashes(node.inputs(), links_of(node), groups_of(node), thing)


def clashes(inputs, links, groups, thing):
    """Whether any thing is a clash where these links lead on, and each of the groups must have one clock."""
    if not isinstance(thing, tuple) or len(thing) != 4:
        return False
    word, steps, one, other = thing
    found = clocks_told(inputs, links, steps)
    if found is None:
        return False
    if word == "two":
        return len(_clocks_in(found, one)) > 1 and one == other
    if word == "hold":
        return (one, other, None) in links and () in _clocks_in(found, other)
    if word == "same":
        return _are_grouped(groups, one, other) and _are_unlike(_clocks_in(found, one), _clocks_in(found, other))
    return False


def clocks_told(inputs, links, thing):
    """The clocks of each name by a list of steps that follow, as lists, each once; None of any other thing."""
    if not isinstance(thing, list):
        return None
    leading = {}
    for link in links:
        leading.setdefault(link[0], []).append(link)
    found = {}
    for step in thing:
        if not isinstance(step, tuple) or len(step) != 3 or not isinstance(step[0], str):
            return None
        name, clock, premise = step
        if premise is None:
            follows = name in inputs and clock == ()
        else:
            follows = _follows(leading.get(name, []), found, clock, premise)
        if not follows:
            return None
        if clock not in found.setdefault(name, []):
            found[name].append(clock)
    return found


def _follows(links, found, clock, premise):
    """Whether one of these links leads to a clock, from a clock that its premise was found to have."""
    for _, mentioned, labels in links:
        if mentioned == premise:
            for known in found.get(mentioned, []):
                led = led_to(known, labels)
                if led is not None and led == clock:
                    return True
    return False


def _clocks_in(found, name):
    return found.get(name, []) if isinstance(name, str) else []


def _are_grouped(groups, one, other):
    return any([one in group and other in group and one != other for group in groups])


def _are_unlike(first, second):
    return any([one != other for one in first for other in second])
