import random
import unittest

from beatrows.clockpapers import is_clash
from beatrows.clocks import clocks_of
from beatrows.errors import NoCall, NoClock, NoFit, NoNode, Ring
from beatrows.loops import Loop
from beatrows.looprows import is_loop, show_loop
from beatrows.nodes import Node
from beatrows.nodetext import read_node
from beatrows.orders import is_order, is_ring

from cases import BeatCase, nested, no_texts, sound_node, wild_texts

KINDS = read_node("""node n in a c out x w d
x = hold 5 y
p = before 1 q
q = ( p + a )
y = a when c
z = before true y
w = 7 like y
v = ( y + 1 )
same y z
m = ( y < 3 )
u = v when m
t = hold 0 u
d = ( ! c )""")
# In one of the right orders.
TOLD = [
    ("c", None, None), ("a", None, None), ("p", None, ("before", "p", 1, "q")), ("y", "c", ("when", "y", "a", "c")),
    ("x", None, ("hold", "x", 5, "y")), ("q", None, ("plain", "q", ("two", "+", ("name", "p"), ("name", "a")))),
    ("z", "c", ("before", "z", True, "y")), ("w", "c", ("like", "w", 7, "y")),
    ("v", "c", ("plain", "v", ("two", "+", ("name", "y"), ("value", 1)))),
    ("m", "c", ("plain", "m", ("two", "<", ("name", "y"), ("value", 3)))), ("u", "m", ("when", "u", "v", "m")),
    ("t", "c", ("hold", "t", 0, "u")), ("d", None, ("plain", "d", ("not", ("name", "c")))),
]


def node(*rows, inputs="a b c"):
    told = [row.split(" ")[0] for row in rows if not row.startswith("same")]
    return read_node("\n".join([f"node n in {inputs} out {told[0]}", *rows]))


class IsLoopTest(BeatCase):
    def right(self, thing, one=KINDS):
        self.assertIs(is_loop(one, thing), True)

    def wrong(self, thing, one=KINDS):
        self.assertIs(is_loop(one, thing), False, thing)

    def changed(self, at, name, truth, told):
        return [*TOLD[:at], (name, truth, told), *TOLD[at + 1:]]

    def test_what_a_loop_tells_and_other_right_orders(self):
        self.right(Loop(KINDS).rows())
        self.right(TOLD)
        self.right([TOLD[1], TOLD[0], *TOLD[2:]])
        self.right([*TOLD[:2], TOLD[12], *TOLD[2:12]])

    def test_many_nodes_in_whatever_order(self):
        chance = random.Random(81)
        seen = [0, 0]
        for _ in range(80):
            one, _ = sound_node(chance, chance.randint(2, 12))
            rows = Loop(one).rows()
            self.right(rows, one)
            for _ in range(5):
                other = list(rows)
                for _ in range(chance.randint(1, 3)):
                    other.insert(chance.randrange(len(other)), other.pop(chance.randrange(len(other))))
                wanted = is_order(one, clocks_of(one), [name for name, _, _ in other])
                self.assertIs(is_loop(one, other), wanted)
                seen[wanted] += 1
        self.assertGreater(min(seen), 50)

    def test_a_name_left_out_or_twice(self):
        for at, row in enumerate(TOLD):
            self.wrong(TOLD[:at] + TOLD[at + 1:])
            self.wrong(TOLD[:at] + [row] + TOLD[at:])
            self.wrong(TOLD + [row])
            self.wrong(TOLD[:at] + [TOLD[0]] + TOLD[at + 1:] if at else TOLD[1:] + [TOLD[1]])
            self.wrong(TOLD[:at] + [("none", *row[1:])] + TOLD[at + 1:])

    def test_a_name_ahead_of_what_it_reads(self):
        for at, ahead in [(3, 0), (3, 1), (4, 3), (5, 2), (7, 0), (6, 0), (8, 3), (10, 8), (10, 9), (11, 10), (12, 0)]:
            other = list(TOLD)
            other.insert(ahead, other.pop(at))
            self.wrong(other)
        self.wrong(TOLD[::-1])

    def test_another_truth_none_for_one_one_for_none(self):
        for at, (name, truth, told) in enumerate(TOLD):
            for other in [None, "a", "c", "m", "none", ("c",), ["c"], True, False, 0, "", {}]:
                if other != truth:
                    self.wrong(self.changed(at, name, other, told))

    def test_another_row_or_none(self):
        for at, (name, truth, told) in enumerate(TOLD):
            for other in [None, (), "x", True, *[row for _, _, row in TOLD]]:
                if other != told:
                    self.wrong(self.changed(at, name, truth, other))
            if told is not None:
                self.wrong(self.changed(at, name, truth, list(told)))
                self.wrong(self.changed(at, name, truth, (*told, told[-1])))
                self.wrong(self.changed(at, name, truth, told[:-1]))
                self.wrong(self.changed(at, name, truth, (told[0], "none", *told[2:])))

    def test_true_is_not_1(self):
        self.wrong(self.changed(2, "p", None, ("before", "p", True, "q")))
        self.wrong(self.changed(6, "z", "c", ("before", "z", 1, "y")))
        self.wrong(self.changed(11, "t", "c", ("hold", "t", False, "u")))
        self.wrong(self.changed(8, "v", "c", ("plain", "v", ("two", "+", ("name", "y"), ("value", True)))))

    def test_lists_for_tuples_and_tuples_for_the_list(self):
        self.wrong(tuple(TOLD))
        for at, row in enumerate(TOLD):
            self.wrong([*TOLD[:at], list(row), *TOLD[at + 1:]])
            self.wrong([*TOLD[:at], row[:2], *TOLD[at + 1:]])
            self.wrong([*TOLD[:at], (*row, None), *TOLD[at + 1:]])
            self.wrong([*TOLD[:at], {row[0]: row[1:]}, *TOLD[at + 1:]])
        self.wrong(self.changed(5, "q", None, ("plain", "q", ["two", "+", ("name", "p"), ("name", "a")])))
        self.wrong({row: True for row in TOLD})

    def test_things_of_other_kinds(self):
        deep = nested(20, "x", lambda thing: (thing, thing, thing))
        for thing in [*no_texts(), *wild_texts(), KINDS, Loop(KINDS), [TOLD], deep, show_loop(Loop(KINDS))]:
            self.wrong(thing)
            for at in (0, 4, 12):
                self.wrong([*TOLD[:at], thing, *TOLD[at + 1:]])
                self.wrong(self.changed(at, thing, *TOLD[at][1:]))
                if thing is not None:
                    self.wrong(self.changed(at, TOLD[at][0], thing, TOLD[at][2]))
                    self.wrong(self.changed(at, *TOLD[at][:2], thing))

    def test_of_another_node(self):
        other = node("x = ( a + b )", inputs="a b")
        right = [("b", None, None), ("a", None, None), ("x", None, other.teller("x").told())]
        self.right(right, other)
        self.wrong(right)
        self.wrong(TOLD, other)
        self.wrong([], other)

    def test_refused_as_a_loop_ahead_of_all_else(self):
        for thing in [*no_texts(), *wild_texts(), KINDS.told(), [KINDS]]:
            if not isinstance(thing, Node):
                self.assert_refused(NoNode, {"found": thing}, is_loop, thing, TOLD)
                self.assert_refused(NoNode, {"found": thing}, is_loop, thing, None)
        called = read_node("node n in a out x\ny = hold 0 a\nx z = call m a y\nw = call k a\nv = hold 0 a")
        ringed = node("x = ( y + a )", "y = ( x + a )")
        for thing in (TOLD, None, []):
            self.assert_refused(NoCall, {"name": "m"}, is_loop, called, thing)
            for rows, word in [
                (["x = ( a + y )", "y = a when c", "z = z", "same a y"], "two"), (["x = hold 0 a", "z = z"], "hold"),
                (["r = ( r + a )", "y = a when c", "same a y"], "same"),
            ]:
                paper = self.refusal(NoFit, is_loop, node(*rows), thing).paper
                self.assertEqual(paper[0], word)
                self.assertTrue(is_clash(node(*rows), paper))
            rows = ["r = ( r + a )", "z = z", "y = a when c", "same a y"]
            self.assert_refused(NoClock, {"name": "z"}, is_loop, node(*rows), thing)
            self.assertTrue(is_ring(ringed, clocks_of(ringed), self.refusal(Ring, is_loop, ringed, thing).paper))

    def test_the_list_stays(self):
        rows = list(TOLD)
        is_loop(KINDS, rows)
        self.assertEqual(rows, TOLD)


class ShowTest(BeatCase):
    def test_rows_of_all_kinds_but_calls(self):
        wanted = {
            "a": ": in a", "c": ": in c", "x": ": x = hold 5 y", "p": ": p = before 1 q", "q": ": q = ( p + a )",
            "y": "c : y = a when c", "z": "c : z = before true y", "w": "c : w = 7 like y", "v": "c : v = ( y + 1 )",
            "m": "c : m = ( y < 3 )", "u": "m : u = v when m", "t": "c : t = hold 0 u", "d": ": d = ( ! c )",
        }
        loop = Loop(KINDS)
        self.assertEqual(show_loop(loop), "\n".join([wanted[name] for name, _, _ in loop.rows()]))

    def test_the_documents_rows(self):
        loop = Loop(node("c = ( a < 5 )", "x = a when c", inputs="a"))
        self.assertEqual(show_loop(loop), ": in a\n: c = ( a < 5 )\nc : x = a when c")

    def test_same_rows_have_no_row(self):
        loop = Loop(node("same a a", "x = a", "same x a", inputs="a"))
        self.assertEqual(show_loop(loop), ": in a\n: x = a")

    def test_wherever_the_loop_stands(self):
        loop = Loop(KINDS)
        text = show_loop(loop)
        loop.step({"a": 1, "c": True})
        self.assertEqual(show_loop(loop), text)
        self.assertEqual(show_loop(loop.stood_at(loop.cells())), text)

    def test_many_nodes(self):
        chance = random.Random(89)
        for _ in range(40):
            one, _ = sound_node(chance, chance.randint(2, 15))
            loop = Loop(one)
            for row, (name, truth, told) in zip(show_loop(loop).split("\n"), loop.rows(), strict=True):
                shown = f"in {name}" if told is None else one.teller(name).words()
                self.assertEqual(row, f": {shown}" if truth is None else f"{truth} : {shown}")


if __name__ == "__main__":
    unittest.main()
