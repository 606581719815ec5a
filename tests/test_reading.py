import itertools
import random
import unittest

from beatrows.clocks import clocks_of
from beatrows.errors import NoClock, NoFit, Unknown
from beatrows.nodetext import read_node
from beatrows.reading import is_way, reached_from, reads_of, way_between

from cases import BeatCase, no_texts, some_node, wild_texts

KINDS = """node n in a b c d out x
y = ( ( b + a ) + b )
k = before 1 y
l = 7 like y
w = b when c
v = a when a
x = hold 0 w
same a c x
u = ( w + w )
t = before 0 w
s = true like w
r = w when s
q = u when s
p = hold 0 r
o = before 0 r
m = ( q + r )
i = 1 like q"""
KINDS_READS = {
    "a": [], "b": [], "c": [], "d": [], "y": ["a", "b"], "k": [], "l": [], "w": ["b", "c"], "v": ["a"], "x": ["w"],
    "u": ["c", "w"], "t": ["c"], "s": ["c"], "r": ["w", "s"], "q": ["u", "s"], "p": ["c", "r"], "o": ["s"],
    "m": ["s", "r", "q"], "i": ["s"],
}
RINGS = """node n in a b out x
x = ( y + a )
y = ( z + x )
z = ( x + w )
w = ( y + w )
v = ( x + u )
u = before 0 v
t = ( u + b )"""
STRANGE = [*no_texts(), *wild_texts(), "none", "n", "a.b", ["a"], ("a",), {"a": 1}]


def asked(text):
    node = read_node(text)
    return node, clocks_of(node)


def ways_from(reads, way):
    """All ways that begin with this one."""
    yield way
    for name in reads[way[-1]]:
        if name not in way:
            yield from ways_from(reads, [*way, name])


class ReadsTest(BeatCase):
    def test_each_kind_of_row_with_and_without_a_clocks_last_name(self):
        node, clocks = asked(KINDS)
        self.assert_exact(list(reads_of(node, clocks).items()), list(KINDS_READS.items()))

    def test_each_once_in_the_nodes_order(self):
        node, clocks = asked(
            "node n in a c out x\nz = a when c\nx = ( ( z + y ) + ( k + y ) )\ny = ( z + x )\nk = 1 like y"
        )
        self.assert_exact(reads_of(node, clocks), {
            "a": [], "c": [], "z": ["a", "c"], "x": ["c", "z", "y", "k"], "y": ["c", "z", "x"], "k": ["c"],
        })

    def test_names_that_read_themselves(self):
        node, clocks = asked("node n in a out x\nx = ( x + a )\nsame a x\nz = before 1 x\ny = a")
        self.assertEqual(reads_of(node, clocks), {"a": [], "x": ["a", "x"], "z": [], "y": ["a"]})

    def test_told_dicts_and_lists_are_new(self):
        node, clocks = asked(KINDS)
        told = reads_of(node, clocks)
        told["y"].clear()
        told.clear()
        self.assertEqual(reads_of(node, clocks), KINDS_READS)

    def test_what_is_handed_in_stays(self):
        node, clocks = asked(KINDS)
        kept = dict(clocks)
        reads_of(node, clocks)
        reached_from(node, clocks, "m")
        way_between(node, clocks, "m", "a")
        is_way(node, clocks, "m", "a", ["m"])
        self.assertEqual(clocks, kept)
        self.assert_exact(node.told(), read_node(KINDS).told())

    def test_names_with_their_own_clock_read_ahead(self):
        node, clocks = asked("node n in a c out x\nx = hold 0 y\ny = a when c\nz = x when c")
        self.assertEqual(reads_of(node, clocks), {"a": [], "c": [], "x": ["y"], "y": ["a", "c"], "z": ["c", "x"]})


class WayTest(BeatCase):
    def test_shortest_ways(self):
        node, clocks = asked(KINDS)
        for one, other, wanted in [
            ("a", "a", ["a"]), ("m", "m", ["m"]), ("y", "a", ["y", "a"]), ("m", "s", ["m", "s"]),
            ("m", "c", ["m", "s", "c"]),
            ("x", "b", ["x", "w", "b"]), ("m", "u", ["m", "q", "u"]), ("m", "b", ["m", "r", "w", "b"]),
            ("i", "c", ["i", "s", "c"]),
        ]:
            self.assert_exact(way_between(node, clocks, one, other), wanted)

    def test_none(self):
        node, clocks = asked(KINDS)
        for pair in ("ab", "ay", "ky", "ly", "tw", "or", "md", "iu", "wx"):
            self.assertIsNone(way_between(node, clocks, pair[0], pair[1]))

    def test_rings_among_what_is_read(self):
        node, clocks = asked(RINGS)
        for one, other, wanted in [
            ("x", "x", ["x"]), ("x", "z", ["x", "y", "z"]), ("x", "w", ["x", "y", "z", "w"]),
            ("w", "a", ["w", "y", "x", "a"]),
            ("v", "w", ["v", "x", "y", "z", "w"]), ("w", "w", ["w"]), ("u", "v", None), ("t", "a", None),
        ]:
            self.assertEqual(way_between(node, clocks, one, other), wanted)
        self.assertIn(way_between(node, clocks, "z", "y"), [["z", "x", "y"], ["z", "w", "y"]])

    def test_told_lists_are_new(self):
        node, clocks = asked(KINDS)
        self.assert_new_list(lambda: way_between(node, clocks, "m", "b"), ["m", "r", "w", "b"])
        self.assert_new_list(lambda: way_between(node, clocks, "m", "m"), ["m"])
        self.assert_new_list(lambda: reached_from(node, clocks, "x"), ["b", "c", "w", "x"])

    def test_ways_of_many_nodes(self):
        chance = random.Random(64)
        many = 0
        while many < 60:
            node = some_node(chance, chance.randint(2, 6), kinds=("plain", "when", "hold", "before", "plain"))
            try:
                clocks = clocks_of(node)
            except (NoFit, NoClock):
                continue
            many += 1
            reads = reads_of(node, clocks)
            for one in node.names():
                ways = list(ways_from(reads, [one]))
                last = {way[-1] for way in ways}
                self.assertEqual(reached_from(node, clocks, one), [name for name in node.names() if name in last])
                for other in node.names():
                    right = [way for way in ways if way[-1] == other]
                    found = way_between(node, clocks, one, other)
                    if right:
                        self.assertIn(found, right)
                        self.assertEqual(len(found), min(len(way) for way in right))
                        self.assertIs(is_way(node, clocks, one, other, found), True)
                    else:
                        self.assertIsNone(found)
                    for way in ways:
                        self.assertIs(is_way(node, clocks, one, other, way), way[-1] == other)


class IsWayTest(BeatCase):
    def test_longer_ways(self):
        node, clocks = asked(KINDS)
        for way in (["m", "r", "w", "b"], ["m", "q", "u", "w", "b"]):
            self.assertIs(is_way(node, clocks, "m", "b", way), True)
        self.assertIs(is_way(node, clocks, "m", "c", ["m", "s", "c"]), True)
        self.assertIs(is_way(node, clocks, "m", "c", ["m", "q", "u", "w", "c"]), True)

    def test_from_a_name_to_itself(self):
        node, clocks = asked(RINGS)
        self.assertIs(is_way(node, clocks, "x", "x", ["x"]), True)
        self.assertIs(is_way(node, clocks, "w", "w", ["w"]), True)
        for thing in (["x", "x"], ["x", "y", "x"], ["x", "y", "z", "x"], ["y"], []):
            self.assertIs(is_way(node, clocks, "x", "x", thing), False)
        self.assertIs(is_way(node, clocks, "w", "w", ["w", "w"]), False)

    def test_a_name_twice(self):
        node, clocks = asked(RINGS)
        self.assertIs(is_way(node, clocks, "x", "w", ["x", "y", "z", "w"]), True)
        self.assertIs(is_way(node, clocks, "x", "w", ["x", "y", "x", "y", "z", "w"]), False)
        self.assertIs(is_way(node, clocks, "x", "w", ["x", "y", "z", "w", "w"]), False)
        self.assertIs(is_way(node, clocks, "x", "a", ["x", "y", "x", "a"]), False)

    def test_what_is_no_way(self):
        node, clocks = asked(KINDS)
        way = ["m", "r", "w", "b"]
        for thing in [
            tuple(way), way[:3], way[1:], list(reversed(way)), ["m", "w", "b"], ["m", "b"], ["m", "r", "b"], ["b"],
            ["m"],
            ["m", "r", "w", "c"], ["a", "r", "w", "b"], ["m", "r", "y", "b"], [*way, None], [None, *way],
            [["m"], "r", "w", "b"],
            ["none", "r", "w", "b"], ["m", ["r"], "w", "b"], ["m", "r", "w", ["b"]], ["m", "none", "w", "b"],
            {"m": 1, "r": 1, "w": 1, "b": 1}, "mrwb",
            node, clocks, ["k", "y"], [way], (way,),
        ]:
            self.assertIs(is_way(node, clocks, "m", "b", thing), False)
        for thing in [*no_texts(), *wild_texts(), [], ["a"], ["none"]]:
            self.assertIs(is_way(node, clocks, "m", "b", thing), False)
            self.assertIs(is_way(node, clocks, "m", "b", ["m", thing, "w", "b"]), False)
            self.assertIs(is_way(node, clocks, "m", "m", thing), False)

    def test_the_thing_stays(self):
        node, clocks = asked(KINDS)
        way = ["m", "r", "w", "b"]
        is_way(node, clocks, "m", "b", way)
        self.assertEqual(way, ["m", "r", "w", "b"])


class ReachedTest(BeatCase):
    def test_in_the_nodes_order(self):
        node, clocks = asked(KINDS)
        for name, wanted in [
            ("a", "a"), ("d", "d"), ("k", "k"), ("y", "aby"), ("v", "av"), ("x", "bcwx"), ("s", "cs"), ("o", "cso"),
            ("m", "bcwusrqm"), ("i", "csi"), ("p", "bcwsrp"),
        ]:
            self.assertEqual(reached_from(node, clocks, name), list(wanted))

    def test_rings(self):
        node, clocks = asked(RINGS)
        for name, wanted in [("x", "axyzw"), ("w", "axyzw"), ("v", "axyzwvu"), ("u", "u"), ("t", "but")]:
            self.assertEqual(reached_from(node, clocks, name), list(wanted))


class UnknownTest(BeatCase):
    def test_the_first_thing_that_is_no_name(self):
        node, clocks = asked(KINDS)
        for thing in STRANGE:
            self.assert_refused(Unknown, {"name": thing}, reached_from, node, clocks, thing)
            for call, more in [(way_between, ()), (is_way, (["m"],))]:
                self.assert_refused(Unknown, {"name": thing}, call, node, clocks, thing, "a", *more)
                self.assert_refused(Unknown, {"name": thing}, call, node, clocks, "a", thing, *more)
                self.assert_refused(Unknown, {"name": thing}, call, node, clocks, thing, [], *more)

    def test_names_ahead_of_the_thing(self):
        node, clocks = asked(KINDS)
        for thing in (None, [], ["none"], 7):
            self.assert_refused(Unknown, {"name": "none"}, is_way, node, clocks, "a", "none", thing)


class BoundsTest(BeatCase):
    def test_200_names(self):
        names = ["x" + chr(97 + at // 26) + chr(97 + at % 26) for at in range(199)]
        rows = [f"{name} = ( {ahead} + a )" for ahead, name in zip(["a", *names], names)]
        node, clocks = asked("\n".join(["node n in a out xaa", *reversed(rows)]))
        self.assertEqual(len(reached_from(node, clocks, names[-1])), 200)
        self.assertEqual(way_between(node, clocks, names[-1], names[0]), list(reversed(names)))
        self.assertIs(is_way(node, clocks, names[-1], names[0], list(reversed(names))), True)
        self.assertEqual(way_between(node, clocks, names[-1], "a"), [names[-1], "a"])

    def test_ways_of_three_names(self):
        node, clocks = asked(RINGS)
        reads = reads_of(node, clocks)
        for way in itertools.product(node.names(), repeat=3):
            wanted = len(set(way)) == 3 and way[1] in reads[way[0]] and way[2] in reads[way[1]]
            self.assertIs(is_way(node, clocks, way[0], way[2], list(way)), wanted)


if __name__ == "__main__":
    unittest.main()
