"""The operators, and what they make of values."""

from beatrows.words import is_value, is_whole

_OPS = ("+", "-", "*", "/", "mod", "<", "=", "&", "|")


def ops_told():
    """The operators, as a new list."""
    return list(_OPS)


def reckoned(op, one, other):
    """What comes of two values: (value, None), or (None, word) where it faults."""
    if not _takes(op, one, other):
        return (None, "kind")
    if op in ("/", "mod") and other == 0:
        return (None, "nought")
    value = _outcome(op, one, other)
    if not is_value(value):
        return (None, "great")
    return (value, None)


def contrary(one):
    """The contrary of a truth: (value, None), or (None, "kind") of a number."""
    if is_whole(one):
        return (None, "kind")
    return (not one, None)


def _takes(op, one, other):
    if op == "=":
        return is_whole(one) == is_whole(other)
    if op in ("&", "|"):
        return not is_whole(one) and not is_whole(other)
    return is_whole(one) and is_whole(other)


def _outcome(op, one, other):
    if op == "+":
        return one + other
    if op == "-":
        return one - other
    if op == "*":
        return one * other
    if op == "/":
        return one // other
    if op == "mod":
        return one % other
    if op == "<":
        return one < other
    if op == "=":
        return one == other
    if op == "&":
        return one and other
    return one or other
