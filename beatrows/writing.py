"""Nodes written out: as nodes without calls, with the rows of the called nodes in the calls' places."""

from beatrows.equations import equation_of
from beatrows.errors import TooMany, Unknown
from beatrows.nodes import Node

_MOST_NAMES = 200


def how_many(program, name):
    """How many names a node has when it is written out; of any thing."""
    many = {}
    for each in [*program.below(name), name]:
        node = program.named(each)
        many[each] = len(node.inputs())
        for row in node.rows():
            many[each] += _many_told(program, row, many)
    return many[name]


def written_out(program, name):
    """A node without calls that tells the same as this one; of any thing."""
    node = _need_few(program, name)
    rows = {}
    for each in [*program.below(name), name]:
        rows[each] = _rows_out(program, program.named(each), rows)
    return Node(name, node.inputs(), node.outs(), [row.told() for row in rows[name]])


def where_from(program, name, inner):
    """The calls that lead to a name of the node written out, and what it is called there; of any things."""
    written_out(program, name).teller(inner)
    *firsts, own = inner.split(".")
    calls = []
    for first in firsts:
        called = dict(program.calls_in(name))[first]
        calls.append((first, called))
        name = called
    return (calls, own)


def name_at(program, name, firsts, own):
    """The name in the node written out of a name of the node to which firsts lead; of any things."""
    node = _need_few(program, name)
    if not isinstance(firsts, (list, tuple)):
        raise Unknown(firsts)
    path = ""
    names = {each: each for each in node.names()}
    for first in firsts:
        call = _call_at(node, first)
        node = _called_by(program, call)
        seen = _names_seen(call, node, node.names())
        names = {each: names.get(seen[each], path + seen[each]) for each in seen}
        path = f"{path}{first}."
    node.teller(own)
    return names[own]


def _need_few(program, name):
    node = program.named(name)
    many = how_many(program, name)
    if many > _MOST_NAMES:
        raise TooMany(many)
    return node


def _many_told(program, row, many):
    """How many names a row tells when it is written out, by how many the nodes ahead have."""
    if not row.is_call():
        return len(row.tells())
    called = _called_by(program, row)
    return many[called.name] - len(called.inputs())


def _rows_out(program, node, rows):
    """The rows of a node written out, by those of the nodes below it."""
    found = []
    for row in node.rows():
        if row.is_call():
            called = _called_by(program, row)
            found.extend(_rows_of_call(row, called, rows[called.name]))
        else:
            found.append(row)
    return found


def _rows_of_call(call, called, rows):
    """The rows that stand in the place of a call, by those of the called node written out."""
    inner = called.inputs()
    for row in rows:
        inner.extend(row.tells())
    seen = _names_seen(call, called, inner)
    found = [row.renamed(seen) for row in rows]
    unlike = call.names()
    if len(unlike) > 1:
        found.insert(0, equation_of(("same", tuple(unlike))))
    return found


def _names_seen(call, called, inner):
    """For each of these names of a called node the one that it has where the call stands."""
    _, outs, _, given = call.told()
    seen = {name: f"{outs[0]}.{name}" for name in inner}
    for name, outer in zip(called.inputs(), given):
        seen[name] = outer
    for name, outer in zip(called.outs(), outs):
        seen[name] = outer
    return seen


def _called_by(program, call):
    _, _, name, _ = call.told()
    return program.named(name)


def _call_at(node, first):
    """The call that tells this name as its first one; refused with Unknown of any other thing."""
    for row in node.rows():
        if row.is_call() and row.tells()[0] == first:
            return row
    raise Unknown(first)
