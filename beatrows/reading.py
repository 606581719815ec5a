"""What each name reads in one beat, and the ways from name to name by that."""


def reads_of(node, clocks):
    """The names that each name reads in one beat, all in the node's order."""
    return reads_with({name: read_by(node.teller(name)) for name in node.names()}, clocks)


def reads_with(mentioned, clocks):
    """Likewise by what the row of each name reads; each name reads the last name of its clock, too."""
    reads = {}
    for name in mentioned:
        found = {other: True for other in mentioned[name]}
        for label in clocks[name][-1:]:
            found[label] = True
        reads[name] = [other for other in mentioned if other in found]
    return reads


def read_by(row):
    """The names that a row that is no call reads in the beat itself; no row, of an input, reads none."""
    if row is None or row.told()[0] in ("before", "like"):
        return []
    return row.names()


def reached_from(node, clocks, name):
    """The names to which a way leads from a name, itself too; of any thing, refused with Unknown."""
    node.teller(name)
    came = ways_from(reads_of(node, clocks), name)
    return [each for each in node.names() if each in came]


def way_between(node, clocks, one, other):
    """A way with as few names as can be, None where there is none; of any things, refused with Unknown."""
    node.teller(one)
    node.teller(other)
    came = ways_from(reads_of(node, clocks), one)
    if other not in came:
        return None
    way = [other]
    while way[-1] != one:
        way.append(came[way[-1]])
    return list(reversed(way))


def is_way(node, clocks, one, other, thing):
    """Whether any thing is a way from the one to the other; of any things, refused with Unknown."""
    node.teller(one)
    node.teller(other)
    if not isinstance(thing, list) or not is_walk(reads_of(node, clocks), thing):
        return False
    return thing[0] == one and thing[-1] == other


def is_walk(reads, things):
    """Whether a list has a name at least, none twice, and each but the last reads the one behind it."""
    for at, name in enumerate(things):
        if not isinstance(name, str) or name not in reads or name in things[:at]:
            return False
        if at > 0 and name not in reads[things[at - 1]]:
            return False
    return len(things) > 0


def ways_from(reads, name):
    """For each name that is reached the one ahead of it on a shortest way; for the first one None."""
    came = {name: None}
    waiting = [name]
    at = 0
    while at < len(waiting):
        ahead = waiting[at]
        for other in reads[ahead]:
            if other not in came:
                came[other] = ahead
                waiting.append(other)
        at += 1
    return came
