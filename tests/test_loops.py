import random
import time
import unittest

from beatrows.asking import Asker, run_by_asking
from beatrows.clockpapers import is_clash
from beatrows.clocks import clocks_of
from beatrows.errors import NoBeats, NoCall, NoCells, NoClock, NoFit, NoInput, NoNode, Ring
from beatrows.loops import Loop, run_loop
from beatrows.nodes import Node
from beatrows.nodetext import read_node
from beatrows.orders import is_order, is_ring

from cases import BeatCase, Played, no_texts, some_rows, sound_node, wild_texts

KINDS = read_node("""node n in a c out x w d
x = hold 5 y
p = before 100 q
q = ( p + a )
y = a when c
z = before -1 y
w = 7 like y
v = ( y + z )
same y z
m = ( y < 3 )
u = v when m
t = hold 0 u
d = ( ! c )""")
ROWS = [
    {"a": 1, "c": False}, {"a": 2, "c": True}, {"a": 3, "c": False}, {"a": 4, "c": True}, {"a": 0, "c": True},
]
TOLD = [
    [("a", 1), ("c", False), ("x", 5), ("p", 100), ("q", 101), ("d", True)],
    [("a", 2), ("c", True), ("x", 2), ("p", 101), ("q", 103), ("y", 2), ("z", -1), ("w", 7), ("v", 1), ("m", True),
     ("u", 1), ("t", 1), ("d", False)],
    [("a", 3), ("c", False), ("x", 2), ("p", 103), ("q", 106), ("d", True)],
    [("a", 4), ("c", True), ("x", 4), ("p", 106), ("q", 110), ("y", 4), ("z", 2), ("w", 7), ("v", 6), ("m", False),
     ("t", 1), ("d", False)],
    [("a", 0), ("c", True), ("x", 0), ("p", 110), ("q", 110), ("y", 0), ("z", 4), ("w", 7), ("v", 4), ("m", True),
     ("u", 4), ("t", 4), ("d", False)],
]
CELLS = [
    {"x": 5, "p": 100, "z": -1, "t": 0}, {"x": 5, "p": 101, "z": -1, "t": 0}, {"x": 2, "p": 103, "z": 2, "t": 1},
    {"x": 2, "p": 106, "z": 2, "t": 1}, {"x": 4, "p": 110, "z": 4, "t": 1}, {"x": 0, "p": 110, "z": 0, "t": 4},
]
ONE = read_node("node n in a out x\nx = ( 10 / a )\ny = before 0 x\nz = hold 1 w\nw = y when c\nc = ( a < 2 )")
PLAIN = read_node("node n in a out x\nx = ( 10 / a )")


def node(*rows, inputs="a b c"):
    told = [row.split(" ")[0] for row in rows if not row.startswith("same")]
    return read_node("\n".join([f"node n in {inputs} out {told[0]}", *rows]))


def stepped(loop, rows):
    return [loop.step(row) for row in rows]


class MadeTest(BeatCase):
    def test_no_node(self):
        for thing in [*no_texts(), *wild_texts(), KINDS.told(), [KINDS]]:
            if not isinstance(thing, Node):
                for call, more in [(Loop, ()), (run_loop, ([],)), (run_loop, (None,))]:
                    self.assert_refused(NoNode, {"found": thing}, call, thing, *more)

    def test_the_first_calls_node(self):
        text = "node n in a out x\ny = a\nx z = call m a y\nw = call k a\nv = hold 0 a"
        for call, more in [(Loop, ()), (run_loop, ([],)), (run_loop, (None,))]:
            self.assert_refused(NoCall, {"name": "m"}, call, read_node(text), *more)
            self.assert_refused(NoCall, {"name": "k"}, call, read_node("node n in a out x\nx = call k x\ny = y"), *more)

    def test_clocks_and_rings(self):
        for call, more in [(Loop, ()), (run_loop, ([],)), (run_loop, (None,))]:
            for rows, word in [
                (["x = ( a + y )", "y = a when c", "z = z", "same a y"], "two"), (["x = hold 0 a", "z = z"], "hold"),
                (["r = ( r + a )", "y = a when c", "same a y"], "same"),
            ]:
                paper = self.refusal(NoFit, call, node(*rows), *more).paper
                self.assertEqual(paper[0], word)
                self.assertTrue(is_clash(node(*rows), paper))
            rows = ["r = ( r + a )", "z = z", "y = a when c", "same a y"]
            self.assert_refused(NoClock, {"name": "z"}, call, node(*rows), *more)
            ringed = node("x = ( y + a )", "y = ( x + a )")
            self.assertTrue(is_ring(ringed, clocks_of(ringed), self.refusal(Ring, call, ringed, *more).paper))


class RowsTest(BeatCase):
    def walked(self, one, rows):
        """Each name once, the last name of its clock, the row that tells it, in an order."""
        self.assertIs(type(rows), list)
        clocks = clocks_of(one)
        self.assertIs(is_order(one, clocks, [name for name, _, _ in rows]), True)
        for row in rows:
            self.assertIs(type(row), tuple)
            name, truth, told = row
            self.assert_exact(truth, clocks[name][-1] if clocks[name] else None)
            teller = one.teller(name)
            self.assert_exact(told, None if teller is None else teller.told())

    def test_all_kinds_of_rows(self):
        self.walked(KINDS, Loop(KINDS).rows())
        rows = {name: (truth, told) for name, truth, told in Loop(KINDS).rows()}
        self.assertEqual(rows["a"], (None, None))
        self.assertEqual(rows["z"], ("c", ("before", "z", -1, "y")))
        self.assertEqual(rows["u"], ("m", ("when", "u", "v", "m")))
        self.assertEqual(rows["t"], ("c", ("hold", "t", 0, "u")))
        self.assertEqual(rows["d"], (None, ("plain", "d", ("not", ("name", "c")))))

    def test_many_nodes(self):
        chance = random.Random(81)
        for _ in range(60):
            one, truths = sound_node(chance, chance.randint(2, 20))
            loop = Loop(one)
            kept = loop.rows()
            self.walked(one, kept)
            for row in some_rows(chance, one, truths, 3):
                if loop.step(row) is None:
                    break
            self.assertEqual(loop.rows(), kept)

    def test_told_lists_are_new(self):
        loop = Loop(KINDS)
        self.assert_new_list(loop.rows, loop.rows())


class CellsTest(BeatCase):
    def test_at_first_and_behind_each_beat(self):
        loop = Loop(KINDS)
        self.assert_exact(list(loop.cells().items()), list(CELLS[0].items()))
        for row, wanted in zip(ROWS, CELLS[1:]):
            loop.step(row)
            self.assert_exact(list(loop.cells().items()), list(wanted.items()))

    def test_a_cell_for_each_before_and_each_hold_and_no_other(self):
        self.assertEqual(Loop(PLAIN).cells(), {})
        one = node("h = hold true y", "y = a when c", "x = before -3 h", "same a h x", "v = ( a + b )", "k = 1 like x")
        self.assert_exact(list(Loop(one).cells().items()), [("h", True), ("x", -3)])

    def test_told_dicts_are_new(self):
        loop = Loop(KINDS)
        loop.cells().clear()
        loop.cells()["x"] = 9
        self.assert_exact(loop.cells(), CELLS[0])
        self.assert_exact(list(loop.step(ROWS[0]).items()), TOLD[0])

    def test_a_beat_with_faults_leaves_the_cells(self):
        loop = Loop(ONE)
        stepped(loop, [{"a": 1}, {"a": 5}])
        kept = loop.cells()
        self.assertEqual(kept, {"y": 2, "z": 0})
        self.assertIsNone(loop.step({"a": 0}))
        self.assert_exact(loop.cells(), kept)

    def test_befores_read_the_beat_ahead(self):
        one = node("x = before 1 y", "y = before 2 a", "z = before 3 x", "w = before 4 y", inputs="a")
        loop = Loop(one)
        self.assert_exact(stepped(loop, [{"a": 7}, {"a": 8}, {"a": 9}]), [
            {"a": 7, "x": 1, "y": 2, "z": 3, "w": 4}, {"a": 8, "x": 2, "y": 7, "z": 1, "w": 2},
            {"a": 9, "x": 7, "y": 8, "z": 2, "w": 7},
        ])
        self.assert_exact(loop.cells(), {"x": 8, "y": 9, "z": 7, "w": 8})

    def test_cells_of_names_that_are_still_stay(self):
        rows = ["y = a when c", "x = before 1 y", "h = hold 2 y", "k = d when c", "v = y when k", "g = hold 3 v"]
        one = node(*rows, inputs="a c d")
        loop = Loop(one)
        for a, c, d, wanted in [
            (5, False, True, {"x": 1, "h": 2, "g": 3}), (6, True, False, {"x": 6, "h": 6, "g": 3}),
            (7, True, True, {"x": 7, "h": 7, "g": 7}), (8, False, False, {"x": 7, "h": 7, "g": 7}),
            (9, True, False, {"x": 9, "h": 9, "g": 7}),
        ]:
            loop.step({"a": a, "c": c, "d": d})
            self.assert_exact(loop.cells(), wanted)


class StepTest(BeatCase):
    def test_all_kinds_of_rows(self):
        loop = Loop(KINDS)
        self.assert_exact([list(row.items()) for row in stepped(loop, ROWS)], TOLD)
        self.assertIsNone(loop.faults())

    def test_many_nodes(self):
        chance = random.Random(83)
        for _ in range(150):
            one, truths = sound_node(chance, chance.randint(3, 20))
            rows = some_rows(chance, one, truths, chance.randint(0, 15))
            played = Played(one, rows)
            loop = Loop(one)
            for beat, row in enumerate(played.told):
                self.assertEqual(loop.beats(), beat)
                self.assert_exact(list(loop.step(rows[beat]).items()), list(row.items()))
                for name, value in loop.cells().items():
                    _, _, first, other = one.teller(name).told()
                    had = [each[other] for each in played.told[:beat + 1] if other in each]
                    self.assert_exact(value, had[-1] if had else first)
            if played.faults is not None:
                self.assertIsNone(loop.step(rows[len(played.told)]))
            self.assert_exact(loop.faults(), played.faults)

    def test_a_number_is_not_true(self):
        for value in (0, 1, -1, 7):
            self.assertEqual(Loop(node("x = a when c", inputs="a c")).step({"a": 5, "c": value}), {"a": 5, "c": value})

    def test_rows_with_more_names_than_inputs(self):
        self.assertEqual(Loop(PLAIN).step({"a": 5, "x": 9, "b": [], 7: None}), {"a": 5, "x": 2})

    def test_what_was_told_or_handed_in_is_changed_behind(self):
        loop, row = Loop(KINDS), dict(ROWS[0])
        told = loop.step(row)
        self.assertEqual(row, ROWS[0])
        row.clear()
        told["q"] = 7
        told.clear()
        self.assert_exact(loop.cells(), CELLS[1])
        self.assert_exact([list(row.items()) for row in stepped(loop, ROWS[1:])], TOLD[1:])

    def test_no_input(self):
        one = node("x = ( a + b )", "y = before 0 a", inputs="a b")
        loop = Loop(one)
        for beat in range(3):
            for row, name in [
                ({}, "a"), ({"a": 1}, "b"), ({"b": 1}, "a"), ({"a": 1, "b": None}, "b"), ({"a": "1", "b": "2"}, "a"),
                ({"a": 1, "b": 10 ** 9 + 1}, "b"), ({"a": [1], "b": 1}, "a"), ({"a": 1, "x": 1}, "b"),
            ]:
                self.assert_refused(NoInput, {"name": name, "beat": beat}, loop.step, row)
            self.assertEqual(loop.beats(), beat)
            self.assertEqual(loop.cells(), {"y": beat})
            loop.step({"a": beat + 1, "b": 1})

    def test_a_thing_that_is_no_dict(self):
        loop = Loop(node("x = ( b + a )", inputs="b a"))
        for thing in [*no_texts(), *wild_texts(), ["a", "b"], [("a", 1), ("b", 1)], "ab"]:
            if not isinstance(thing, dict):
                self.assert_refused(NoInput, {"name": "b", "beat": 0}, loop.step, thing)

    def test_200_beats_and_one_more(self):
        loop = Loop(node("x = before 0 a", inputs="a"))
        for beat in range(200):
            self.assertEqual(loop.step({"a": beat + 1}), {"a": beat + 1, "x": beat})
        for row in ({"a": 1}, {}, None):
            self.assert_refused(NoBeats, {"found": 200}, loop.step, row)
        self.assertEqual((loop.beats(), loop.cells(), loop.faults()), (200, {"x": 200}, None))

    def test_a_loop_that_is_over(self):
        for many in (0, 1, 3, 199):
            loop = Loop(ONE)
            stepped(loop, [{"a": 5}] * many)
            self.assertIsNone(loop.faults())
            self.assertIsNone(loop.step({"a": 0}))
            for row in ({"a": 1}, {"a": 0}, {}, None):
                self.assert_refused(NoBeats, {"found": many}, loop.step, row)
            self.assertEqual(loop.beats(), many)
            self.assert_exact(loop.faults(), (many, [("x", "nought")]))

    def test_faults_are_new_and_in_the_order_of_texts(self):
        rows = ["z = ( 1 / a )", "y = ( a + true )", "b = ( ! a )", "x = ( z / 0 )", "k = ( z < 1 )", "w = a when k",
                "v = before 0 w", "u = ( v / 0 )", "ab = hold 0 w", "c = ( ab / 0 )"]
        loop = Loop(node(*rows, inputs="a"))
        self.assertIsNone(loop.step({"a": 0}))
        wanted = [("b", "kind"), ("y", "kind"), ("z", "nought")]
        self.assert_exact(loop.faults(), (0, wanted))
        loop.faults()[1].clear()
        self.assert_exact(loop.faults(), (0, wanted))


class StoodTest(BeatCase):
    def test_cells_in_whatever_order(self):
        loop = Loop(KINDS)
        for cells in (CELLS[3], dict(reversed(CELLS[3].items()))):
            other = loop.stood_at(cells)
            self.assertIs(type(other), Loop)
            self.assert_exact(list(other.cells().items()), list(CELLS[3].items()))
            self.assertEqual((other.beats(), other.faults()), (0, None))
            self.assert_exact(other.rows(), loop.rows())
            self.assert_exact([list(row.items()) for row in stepped(other, ROWS[3:])], TOLD[3:])
        self.assert_exact(loop.cells(), CELLS[0])
        self.assertEqual(loop.beats(), 0)

    def test_a_loop_goes_on_as_another_one(self):
        chance = random.Random(85)
        for _ in range(100):
            one, truths = sound_node(chance, chance.randint(3, 20))
            rows = some_rows(chance, one, truths, 12)
            loop = Loop(one)
            for row in rows[:chance.randint(0, 8)]:
                if loop.step(row) is None:
                    break
            other = loop.stood_at(loop.cells())
            self.assertEqual(other.rows(), loop.rows())
            began = loop.beats()
            if loop.faults() is not None:
                self.assertIsNone(other.faults())
                continue
            for row in rows[8:]:
                told = loop.step(row)
                self.assert_exact(other.step(row), told)
                self.assert_exact(other.cells(), loop.cells())
                if told is None:
                    self.assert_exact(other.faults(), (loop.faults()[0] - began, loop.faults()[1]))
                    break
            self.assertEqual(other.beats(), loop.beats() - began)

    def test_wherever_the_first_one_is(self):
        loop = Loop(ONE)
        stepped(loop, [{"a": 5}, {"a": 0}])
        other = loop.stood_at({"y": 7, "z": True})
        self.assertEqual((other.beats(), other.faults(), other.cells()), (0, None, {"y": 7, "z": True}))
        self.assertEqual(other.step({"a": 1}), {"a": 1, "x": 10, "y": 7, "z": 7, "w": 7, "c": True})
        self.assert_exact(loop.faults(), (1, [("x", "nought")]))
        full = Loop(PLAIN)
        stepped(full, [{"a": 1}] * 200)
        self.assertEqual(full.stood_at({}).step({"a": 1}), {"a": 1, "x": 10})

    def test_the_two_have_nothing_in_common(self):
        loop, cells = Loop(KINDS), dict(CELLS[2])
        other = loop.stood_at(cells)
        cells.clear()
        self.assert_exact(other.cells(), CELLS[2])
        stepped(other, ROWS[2:4])
        self.assert_exact(loop.cells(), CELLS[0])
        stepped(loop, ROWS[:1])
        self.assert_exact(other.cells(), CELLS[4])
        self.assertEqual(other.beats(), 2)

    def test_the_dict_stays(self):
        cells = dict(CELLS[2])
        stepped(Loop(KINDS).stood_at(cells), ROWS)
        self.assert_exact(cells, CELLS[2])

    def test_no_cells(self):
        cells = CELLS[0]
        loop = Loop(KINDS)
        less = [{name: value for name, value in cells.items() if name != out} for out in cells]
        for thing in [
            *no_texts(), *wild_texts(), {}, list(cells), list(cells.items()), tuple(cells), [cells], *less,
            *[{**each, "a": 1} for each in less], *[{**each, "none": 1} for each in less],
            *[{**each, 1: 1} for each in less],
            *[{**cells, more: 1} for more in ("a", "y", "none", None, 7, ("x",), True)],
            *[{**cells, name: value} for name in cells for value in (
                None, "1", 10 ** 9 + 1, -(10 ** 9) - 1, [1], (1,), {}, "true", cells, KINDS,
            )],
        ]:
            self.assert_refused(NoCells, {"found": thing}, loop.stood_at, thing)
        self.assert_exact(loop.cells(), CELLS[0])
        self.assertEqual(loop.beats(), 0)
        self.assert_exact([list(row.items()) for row in stepped(loop, ROWS)], TOLD)

    def test_a_loop_without_cells(self):
        loop = Loop(PLAIN)
        self.assertEqual(loop.stood_at({}).cells(), {})
        for thing in ([], None, {"x": 1}, {"a": 1}, (), ""):
            self.assert_refused(NoCells, {"found": thing}, loop.stood_at, thing)

    def test_truths_and_numbers_in_cells(self):
        cells = {"x": True, "p": 10 ** 9, "z": -(10 ** 9), "t": False}
        self.assert_exact(Loop(KINDS).stood_at(cells).cells(), cells)


class RunTest(BeatCase):
    def test_equal_to_that_by_asking(self):
        chance = random.Random(86)
        for _ in range(100):
            one, truths = sound_node(chance, chance.randint(3, 20))
            rows = some_rows(chance, one, truths, chance.randint(0, 15))
            for kind in (list, tuple):
                told = run_loop(one, kind(rows))
                self.assert_exact(told, run_by_asking(one, rows))
                self.assertEqual([list(row) for row in told[0]], [list(row) for row in run_by_asking(one, rows)[0]])

    def test_runs(self):
        for many in (0, 1, 5):
            told, faults = run_loop(KINDS, ROWS[:many])
            self.assert_exact([list(row.items()) for row in told], TOLD[:many])
            self.assertIsNone(faults)
        rows = [{"a": at + 1} for at in range(200)]
        self.assertEqual(len(run_loop(ONE, rows)[0]), 200)

    def test_a_fault_and_rows_behind_it(self):
        wanted = ([{"a": 5, "x": 2}], (1, [("x", "nought")]))
        for rest in ([], [{}], [None, 7], [{"a": 1}]):
            self.assert_exact(run_loop(PLAIN, [{"a": 5}, {"a": 0}, *rest]), wanted)

    def test_no_beats(self):
        for rows in ([{"a": 1}] * 201, ({"a": 1},) * 201, [None] * 201, [{"a": 0}] * 300):
            self.assertIs(self.refusal(NoBeats, run_loop, ONE, rows).found, rows)
        for thing in [*no_texts(), *wild_texts(), {0: {"a": 1}}, ONE, Loop(ONE), Asker(ONE)]:
            if not isinstance(thing, (list, tuple)):
                self.assert_refused(NoBeats, {"found": thing}, run_loop, ONE, thing)

    def test_no_input(self):
        for rows, beat in [([{}], 0), ([{"a": 1}, {"x": 1}], 1), ([{"a": 1}] * 7 + [None, {}], 7)]:
            self.assert_refused(NoInput, {"name": "a", "beat": beat}, run_loop, ONE, rows)

    def test_told_and_handed_in_lists(self):
        rows = [dict(row) for row in ROWS]
        told = run_loop(KINDS, rows)
        self.assertEqual(rows, ROWS)
        told[0][0].clear()
        told[0].clear()
        self.assert_exact([list(row.items()) for row in run_loop(KINDS, ROWS)[0]], TOLD)

    def test_200_names_and_200_beats_in_seconds(self):
        names = ["x" + chr(97 + at // 26) + chr(97 + at % 26) for at in range(199)]
        pairs = zip(["a", *names], names)
        rows = [f"{name} = ( ( ( {ahead} + a ) - ( 3 * a ) ) mod ( a + 7 ) )" for ahead, name in pairs]
        rows[::2] = [f"{name} = before 1 {other}" for name, other in zip(names[::2], names[2::2] + ["a"])]
        one = node(*reversed(rows), inputs="a")
        began = time.monotonic()
        told, faults = run_loop(one, [{"a": at} for at in range(200)])
        self.assertEqual((len(told), faults, len(told[199])), (200, None, 200))
        self.assertLess(time.monotonic() - began, 20)


if __name__ == "__main__":
    unittest.main()
