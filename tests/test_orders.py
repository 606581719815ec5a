import itertools
import random
import unittest

from beatrows.clockpapers import is_clash
from beatrows.clocks import clocks_of
from beatrows.errors import NoClock, NoFit, Ring
from beatrows.nodes import Node
from beatrows.nodetext import read_node
from beatrows.orders import is_order, is_ring, need_sound, order_of, ranks_of
from beatrows.reading import reads_of

from cases import BeatCase, no_texts, some_node, sound_node, wild_texts

KINDS = """node n in a b c d out x
i = 1 like q
m = ( q + r )
o = before 0 r
p = hold 0 r
q = u when s
r = w when s
s = true like w
t = before 0 w
u = ( w + w )
same a c x
x = hold 0 w
v = a when a
w = b when c
l = 7 like y
k = before 1 y
y = ( ( b + a ) + b )"""
KINDS_RANKS = {
    "a": 0, "b": 0, "c": 0, "d": 0, "i": 2, "m": 4, "o": 2, "p": 3, "q": 3, "r": 2, "s": 1, "t": 1, "u": 2, "x": 2,
    "v": 1, "w": 1, "l": 0, "k": 0, "y": 1,
}
RINGS = """node n in a b c out x
x = ( y + a )
y = ( z + x )
z = ( x + w )
w = ( y + w )
v = ( x + u )
u = before 0 v
t = ( u + b )"""
SMALL = "node n in a out x\ny = ( x + a )\nx = before 0 y\nz = ( y + x )"
ANY = [*no_texts(), *wild_texts(), "a", "none", ["a"], ("a",), {"a": 1}, [["a"]], [None], [True], ["a", "none"]]


def asked(text):
    node = read_node(text)
    return node, clocks_of(node)


def is_right_order(node, clocks, thing):
    """By the document's words alone."""
    reads = reads_of(node, clocks)
    return sorted(thing) == sorted(reads) and all(
        thing.index(other) < at for at, name in enumerate(thing) for other in reads[name]
    )


def is_right_ring(node, clocks, thing):
    reads = reads_of(node, clocks)
    return len(thing) > 0 and len(set(thing)) == len(thing) and all(
        other in reads.get(name, []) for name, other in zip(thing, [*thing[1:], thing[0]])
    )


def has_ring(reads):
    """Whether some name is reached from one that it reads."""
    for name in reads:
        reached, waiting = set(), list(reads[name])
        while waiting:
            other = waiting.pop()
            if other not in reached:
                reached.add(other)
                waiting.extend(reads[other])
        if name in reached:
            return True
    return False


class OrderTest(BeatCase):
    def test_all_kinds_of_rows(self):
        node, clocks = asked(KINDS)
        order = order_of(node, clocks)
        self.assertIs(type(order), list)
        self.assertTrue(is_right_order(node, clocks, order))
        self.assertIs(is_order(node, clocks, order), True)

    def test_told_lists_are_new(self):
        node, clocks = asked(KINDS)
        self.assert_new_list(lambda: order_of(node, clocks), order_of(node, clocks))

    def test_what_is_handed_in_stays(self):
        node, clocks = asked(KINDS)
        kept = dict(clocks)
        order_of(node, clocks)
        ranks_of(node, clocks)
        self.assertEqual(clocks, kept)
        self.assert_exact(node.told(), read_node(KINDS).told())

    def test_order_or_ring_of_many_nodes(self):
        chance = random.Random(62)
        seen = [0, 0]
        while min(seen) < 100:
            node = some_node(chance, chance.randint(1, 8), kinds=("plain", "when", "hold", "before", "plain"))
            try:
                clocks = clocks_of(node)
            except (NoFit, NoClock):
                continue
            ringed = has_ring(reads_of(node, clocks))
            seen[ringed] += 1
            if not ringed:
                order = order_of(node, clocks)
                self.assertTrue(is_right_order(node, clocks, order))
                self.assertIs(is_order(node, clocks, order), True)
                ranks = ranks_of(node, clocks)
                self.assertEqual(list(ranks), node.names())
                self.assertTrue(is_right_order(node, clocks, sorted(ranks, key=ranks.get)))
                continue
            for call in (order_of, ranks_of):
                ring = self.refusal(Ring, call, node, clocks).paper
                self.assertIs(type(ring), list)
                self.assertTrue(is_right_ring(node, clocks, ring), (node.told(), ring))
                self.assertIs(is_ring(node, clocks, ring), True)

    def test_rings(self):
        for text, wanted in [
            ("node n in a out x\nx = ( x + a )", [["x"]]),
            ("node n in a out x\nx = ( y + a )\ny = ( x + a )", [["x", "y"], ["y", "x"]]),
            ("node n in a out x\nx = ( y + a )\ny = ( z + z )\nz = ( x + a )",
             [["x", "y", "z"], ["y", "z", "x"], ["z", "x", "y"]]),
            ("node n in a c out x\nx = ( y + z )\nz = hold 0 w\nw = x when c\ny = a",
             [["x", "z", "w"], ["z", "w", "x"], ["w", "x", "z"]]),
            ("node n in a c out x\nx = before 0 w\nw = a when y\ny = ( z < a )\nz = hold 1 w",
             [["w", "y", "z"], ["y", "z", "w"], ["z", "w", "y"]]),
        ]:
            node, clocks = asked(text)
            ring = self.refusal(Ring, order_of, node, clocks).paper
            self.assertIn(ring, wanted)
            self.assertIn(self.refusal(Ring, ranks_of, node, clocks).paper, wanted)
            ring.clear()
            self.assertIn(self.refusal(Ring, order_of, node, clocks).paper, wanted)

    def test_a_ring_by_the_last_name_of_a_clock_alone(self):
        # l ticks where y is true, and y reads l through its hold.
        node, clocks = asked("node n in a out x\ny = ( z = a )\nz = hold 0 l\nl = 7 like w\nw = a when y\nx = a")
        self.assertEqual(sorted(self.refusal(Ring, order_of, node, clocks).paper), ["l", "y", "z"])

    def test_befores_and_likes_make_no_ring(self):
        node, clocks = asked(SMALL)
        self.assertTrue(is_right_order(node, clocks, order_of(node, clocks)))
        node, clocks = asked("node n in a out x\ny = ( x + a )\nx = 3 like y")
        self.assertTrue(is_right_order(node, clocks, order_of(node, clocks)))

    def test_200_names(self):
        names = ["x" + chr(97 + at // 26) + chr(97 + at % 26) for at in range(199)]
        rows = [f"{name} = ( {ahead} + a )" for ahead, name in zip(["a", *names], names)]
        node, clocks = asked("\n".join(["node n in a out xaa", *reversed(rows)]))
        self.assertEqual(order_of(node, clocks), ["a", *names])
        self.assertEqual(ranks_of(node, clocks)[names[-1]], 199)
        rows[0] = f"xaa = ( {names[-1]} + a )"
        node, clocks = asked("\n".join(["node n in a out xaa", *reversed(rows)]))
        ring = self.refusal(Ring, order_of, node, clocks).paper
        self.assertEqual(len(ring), 199)
        self.assertIs(is_ring(node, clocks, ring), True)


class IsOrderTest(BeatCase):
    def test_all_right_ones_and_no_other(self):
        node, clocks = asked(SMALL)
        right = 0
        for thing in itertools.permutations(node.names()):
            wanted = is_right_order(node, clocks, list(thing))
            self.assertIs(is_order(node, clocks, list(thing)), wanted)
            self.assertIs(is_order(node, clocks, thing), False)
            right += wanted
        self.assertEqual(right, 2)

    def test_spoilt_ones(self):
        node, clocks = asked(KINDS)
        order = order_of(node, clocks)
        for at, name in enumerate(order):
            self.assertIs(is_order(node, clocks, order[:at] + order[at + 1:]), False)
            self.assertIs(is_order(node, clocks, order[:at] + [name] + order[at:]), False)
            self.assertIs(is_order(node, clocks, order[:at] + [order[0]] + order[at + 1:]), at == 0)
            self.assertIs(is_order(node, clocks, order + [name]), False)
            for thing in [*ANY, "none", "n"]:
                if thing != name:
                    self.assertIs(is_order(node, clocks, order[:at] + [thing] + order[at + 1:]), False)
            for other in range(at):
                changed = list(order)
                changed[at], changed[other] = changed[other], changed[at]
                self.assertIs(is_order(node, clocks, changed), is_right_order(node, clocks, changed))

    def test_things_of_other_kinds(self):
        node, clocks = asked(KINDS)
        order = order_of(node, clocks)
        for thing in [*ANY, [], tuple(order), {name: 1 for name in order}, [order], [*order, None], node, clocks]:
            self.assertIs(is_order(node, clocks, thing), False)
        self.assertIs(is_order(node, clocks, list(reversed(order))), False)

    def test_nodes_with_rings_have_none(self):
        node, clocks = asked("node n in a out x\nx = ( y + a )\ny = ( x + a )\nz = a")
        for thing in itertools.permutations(node.names()):
            self.assertIs(is_order(node, clocks, list(thing)), False)

    def test_the_thing_stays(self):
        node, clocks = asked(SMALL)
        order = order_of(node, clocks)
        kept = list(order)
        is_order(node, clocks, order)
        is_ring(node, clocks, order)
        self.assertEqual(order, kept)


class IsRingTest(BeatCase):
    def test_all_lists_of_up_to_four_names(self):
        node, clocks = asked(RINGS)
        right = []
        for many in range(5):
            for thing in itertools.product("axyzwvu", repeat=many):
                wanted = is_right_ring(node, clocks, list(thing))
                self.assertIs(is_ring(node, clocks, list(thing)), wanted, thing)
                self.assertIs(is_ring(node, clocks, thing), False)
                right += [thing] if wanted else []
        self.assertIn(("w",), right)
        self.assertIn(("x", "y"), right)
        self.assertIn(("z", "x", "y"), right)
        self.assertIn(("w", "y", "z"), right)

    def test_the_list_without_names(self):
        for text in (RINGS, SMALL):
            node, clocks = asked(text)
            self.assertIs(is_ring(node, clocks, []), False)

    def test_spoilt_ones(self):
        node, clocks = asked(RINGS)
        ring = ["x", "y", "z"]
        self.assertIs(is_ring(node, clocks, ring), True)
        for thing in [
            ["x", "y"] * 2, ["x", "y", "x"], ["x", "z", "y"], ["x", "y", "z", "x"], ["x", "z"], ["x"], ["w", "w"],
            ["v", "u"], ["v"], ["x", "a"], ["a"], [*ring, "none"], [*ring, None], [["x"], "y", "z"], ["x", "y", ["z"]],
            tuple(ring), [ring], {"x": 1, "y": 1, "z": 1}, "xyz", "w", ("w",), node, clocks,
        ]:
            self.assertIs(is_ring(node, clocks, thing), False)
        for thing in ANY:
            self.assertIs(is_ring(node, clocks, thing), False)
            for at in range(3):
                self.assertIs(is_ring(node, clocks, [*ring[:at], thing, *ring[at:]]), False)

    def test_nodes_with_an_order_have_none(self):
        node, clocks = asked(SMALL)
        for many in range(5):
            for thing in itertools.permutations(node.names(), many):
                self.assertIs(is_ring(node, clocks, list(thing)), False)


class RanksTest(BeatCase):
    def test_several_levels_in_the_nodes_order(self):
        node, clocks = asked(KINDS)
        told = ranks_of(node, clocks)
        self.assert_exact(list(told.items()), list(KINDS_RANKS.items()))
        told.clear()
        self.assertEqual(ranks_of(node, clocks), KINDS_RANKS)

    def test_one_more_than_the_greatest(self):
        node, clocks = asked("node n in a out x\nz = ( y + ( a + x ) )\ny = ( x + a )\nx = a\nw = before 0 z")
        self.assert_exact(ranks_of(node, clocks), {"a": 0, "z": 3, "y": 2, "x": 1, "w": 0})


class SoundTest(BeatCase):
    def test_clocks_and_order(self):
        node, clocks = asked(KINDS)
        told = need_sound(node)
        self.assertIs(type(told), tuple)
        self.assertEqual(len(told), 2)
        self.assert_exact(list(told[0].items()), list(clocks.items()))
        self.assertIs(is_order(node, clocks, told[1]), True)
        told[0].clear()
        told[1].clear()
        self.assertEqual(need_sound(node)[0], clocks)

    def test_refused(self):
        two = "x = ( a + y )\ny = a when c\n"
        for rows, word in [(two, "two"), ("x = hold 0 a\n", "hold"), ("x = a\ny = a when c\nsame a y\n", "same")]:
            node = read_node(f"node n in a c out x\n{rows}r = ( r + a )")
            paper = self.refusal(NoFit, need_sound, node).paper
            self.assertEqual(paper[0], word)
            self.assertTrue(is_clash(node, paper))
        node = read_node("node n in a out x\nr = ( r + a )\nx = x")
        self.assert_refused(NoClock, {"name": "x"}, need_sound, node)
        self.assert_refused(Ring, {"paper": ["r"]}, need_sound, read_node("node n in a out r\nr = ( r + a )"))

    def test_sound_nodes(self):
        chance = random.Random(65)
        for _ in range(50):
            node, _ = sound_node(chance, chance.randint(3, 12))
            clocks, order = need_sound(node)
            self.assertTrue(is_right_order(node, clocks, order))
            name, inputs, outs, rows = node.told()
            other = Node(name, inputs, outs, chance.sample(rows, len(rows)))
            self.assertEqual(need_sound(other)[0], clocks)
            self.assertIs(is_order(node, clocks, need_sound(other)[1]), True)
            self.assertEqual(ranks_of(other, clocks), ranks_of(node, clocks))


if __name__ == "__main__":
    unittest.main()
