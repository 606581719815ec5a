"""What a loop does in a beat: shown as a text, and checked."""

from beatrows.asking import plan_of
from beatrows.equations import equation_of


def is_loop(node, thing):
    """Whether any thing is a list of what a loop of the node does in a beat; refused as Loop."""
    plan = plan_of(node)
    if not isinstance(thing, list) or len(thing) != len(plan):
        return False
    parts = {name: (truth, row, reads) for name, truth, row, reads in plan}
    ahead = {}
    for told in thing:
        if not isinstance(told, tuple) or len(told) != 3 or not isinstance(told[0], str):
            return False
        if told[0] not in parts or told[0] in ahead:
            return False
        truth, row, reads = parts[told[0]]
        if told[1] != truth or not _is_row(told[2], row) or not all([name in ahead for name in reads]):
            return False
        ahead[told[0]] = True
    return True


def show_loop(loop):
    """The rows of a loop, one for each name, each behind the last name of its clock."""
    return "\n".join([_words_of(name, truth, told) for name, truth, told in loop.rows()])


def _is_row(thing, row):
    if row is None:
        return thing is None
    # Tuples with True and with 1 are equal; their texts are not.
    return thing == row.told() and repr(thing) == repr(row.told())


def _words_of(name, truth, told):
    words = [":", "in", name] if told is None else [":", equation_of(told).words()]
    return " ".join(words if truth is None else [truth, *words])
