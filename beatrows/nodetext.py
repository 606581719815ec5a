"""Nodes written as texts of rows, and read from them."""

from beatrows.equations import equation_of
from beatrows.errors import NoEquation, NoText
from beatrows.nodes import Node
from beatrows.termtext import read_term
from beatrows.words import is_name, value_of


def show_node(node):
    """The text of a node: its own row, then its rows."""
    head = ["node", node.name, "in", *node.inputs(), "out", *node.outs()]
    return "\n".join([" ".join(head)] + [row.words() for row in node.rows()])


def show_nodes(nodes):
    """The texts of nodes, one behind the other."""
    return "\n".join([show_node(node) for node in nodes])


def read_node(text):
    """The one node that a text writes; of any thing, refused with NoText, then as Node."""
    parts = _parts_of(text, True)[0]
    return Node(*parts)


def read_nodes(text):
    """The nodes that a text writes; of any thing, refused with NoText, then as Node."""
    if text == "":
        return []
    return [Node(name, inputs, outs, rows) for name, inputs, outs, rows in _parts_of(text, False)]


def _parts_of(text, alone):
    """What each node in a text is made of; alone, where there may be one node only."""
    if not isinstance(text, str):
        raise NoText(0)
    found = []
    for at, row in enumerate(text.split("\n")):
        words = row.split(" ")
        if words[0] == "node":
            head = _head_of(words)
            if head is None or (alone and found):
                raise NoText(at)
            found.append((*head, []))
        else:
            told = _told_of(words)
            if told is None or not found:
                raise NoText(at)
            found[-1][3].append(told)
    return found


def _head_of(words):
    """The name, inputs and outs of a node's row, None where it can't stand."""
    if words[2:3] != ["in"] or "out" not in words:
        return None
    out = words.index("out")
    inputs, outs = words[3:out], words[out + 1:]
    if not inputs or not outs:
        return None
    if not all([is_name(word) for word in [words[1], *inputs, *outs]]):
        return None
    return words[1], inputs, outs


def _told_of(words):
    """What another row tells, None where it can't stand."""
    # No word of a text that is read has a point, though equations take names with points.
    if any(["." in word for word in words]):
        return None
    try:
        told = _row_of(words)
        equation_of(told)
    except (NoEquation, NoText):
        return None
    return told


def _row_of(words):
    """What words would tell as a row, right or not; a plain row's term is read."""
    if words[0] == "same":
        return ("same", tuple(words[1:]))
    if "=" not in words:
        return None
    at = words.index("=")
    outs, rest = words[:at], words[at + 1:]
    if rest[:1] == ["call"]:
        return ("call", tuple(outs), *rest[1:2], tuple(rest[2:]))
    if len(outs) != 1:
        return None
    return _told_by(outs[0], rest)


def _told_by(name, rest):
    """Likewise of what stands behind the name and the sign of a row that is no call."""
    if len(rest) == 3:
        one, word, other = rest
        if one in ("before", "hold"):
            return (one, name, value_of(word), other)
        if word == "when":
            return ("when", name, one, other)
        if word == "like":
            return ("like", name, value_of(one), other)
    return ("plain", name, read_term(" ".join(rest)).told())
