"""Programs: nodes that call one another, each only nodes ahead of it."""

from beatrows.errors import BeatError, NoArgs, NoCall, NoName, NoNode, NoProgram, Twice, Unknown
from beatrows.nodes import Node, node_of
from beatrows.nodetext import read_nodes, show_nodes


class Program:
    """Nodes by their names; it never changes."""

    def __init__(self, nodes):
        if not isinstance(nodes, (list, tuple)) or not nodes:
            raise NoProgram(nodes)
        self._nodes = _nodes_by_name(nodes)
        ahead = {}
        for name, node in self._nodes.items():
            _need_names_without_points(node)
            _need_calls_that_fit(node, ahead)
            ahead[name] = node

    def names(self):
        return list(self._nodes)

    def named(self, name):
        """The node of a name; of any thing."""
        # Looked at ahead of the dict, which takes no lists and dicts as keys.
        if not isinstance(name, str) or name not in self._nodes:
            raise Unknown(name)
        return self._nodes[name]

    def calls_in(self, name):
        """For each call of a node the first name that it tells, and the called node's name; of any thing."""
        calls = []
        for row in self.named(name).rows():
            if row.is_call():
                _, outs, called, _ = row.told()
                calls.append((outs[0], called))
        return calls

    def below(self, name):
        """The nodes that a node calls, and that these call, and so on; of any thing."""
        found = {called: True for _, called in self.calls_in(name)}
        # Backward, as a node is called only by nodes behind it.
        for each in reversed(list(self._nodes)):
            if each in found:
                for _, called in self.calls_in(each):
                    found[called] = True
        return [each for each in self._nodes if each in found]

    def told(self):
        return tuple([node.told() for node in self._nodes.values()])


def program_of(told):
    """The program that any thing tells; refused with NoProgram of the whole thing."""
    if not isinstance(told, tuple):
        raise NoProgram(told)
    try:
        return Program([node_of(part) for part in told])
    except BeatError:
        raise NoProgram(told) from None


def show_program(program):
    """The text of a program: the texts of its nodes."""
    return show_nodes([program.named(name) for name in program.names()])


def read_program(text):
    """The program that a text writes; of any thing, refused as the text's nodes, then as Program."""
    return Program(read_nodes(text))


def _nodes_by_name(things):
    for thing in things:
        if not isinstance(thing, Node):
            raise NoNode(thing)
    nodes = {}
    for node in things:
        if node.name in nodes:
            raise Twice(node.name)
        nodes[node.name] = node
    return nodes


def _need_names_without_points(node):
    for name in node.names():
        if "." in name:
            raise NoName(name)


def _need_calls_that_fit(node, ahead):
    """Each call calls a node ahead, with as many args and outs as that has."""
    for row in node.rows():
        if not row.is_call():
            continue
        _, outs, name, given = row.told()
        if name not in ahead:
            raise NoCall(name)
        called = ahead[name]
        if len(given) != len(called.inputs()):
            raise NoArgs(name, len(given))
        if len(outs) != len(called.outs()):
            raise NoArgs(name, len(outs))
