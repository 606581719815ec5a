import random
import time
import unittest

from beatrows.asking import Asker, run_by_asking
from beatrows.clockpapers import is_clash
from beatrows.clocks import clocks_of
from beatrows.errors import NoBeats, NoCall, NoClock, NoFit, NoInput, NoNode, Ring, Unknown
from beatrows.nodes import Node
from beatrows.nodetext import read_node
from beatrows.orders import is_ring

from cases import BeatCase, Played, no_texts, some_rows, sound_node, wild_texts

KINDS = read_node("""node n in a c out x w d
p = before 100 q
q = ( p + a )
y = a when c
z = before -1 y
w = 7 like y
x = hold 5 y
v = ( y + z )
same y z
m = ( y < 3 )
u = v when m
t = hold 0 u
d = ( ! c )""")
ROWS = [
    {"a": 1, "c": False}, {"a": 2, "c": True}, {"a": 3, "c": False}, {"a": 4, "c": True}, {"a": 0, "c": True},
]
WANTED = [
    {"a": 1, "c": False, "p": 100, "q": 101, "x": 5, "d": True},
    {
        "a": 2, "c": True, "p": 101, "q": 103, "y": 2, "z": -1, "w": 7, "x": 2, "v": 1, "m": True, "u": 1, "t": 1,
        "d": False,
    },
    {"a": 3, "c": False, "p": 103, "q": 106, "x": 2, "d": True},
    {"a": 4, "c": True, "p": 106, "q": 110, "y": 4, "z": 2, "w": 7, "x": 4, "v": 6, "m": False, "t": 1, "d": False},
    {
        "a": 0, "c": True, "p": 110, "q": 110, "y": 0, "z": 4, "w": 7, "x": 0, "v": 4, "m": True, "u": 4, "t": 4,
        "d": False,
    },
]
ONE = read_node("node n in a out x\nx = ( 10 / a )")
NO_ROWS = [thing for thing in no_texts() if not isinstance(thing, dict)]
STRANGE = [*no_texts(), *wild_texts(), "none", "n", "a.b", ["a"], ("a",), {"a": 1}]


def node(*rows, inputs="a b c"):
    told = [row.split(" ")[0] for row in rows if not row.startswith("same")]
    return read_node("\n".join([f"node n in {inputs} out {told[0]}", *rows]))


def given(one, *rows):
    """An asker to which these rows were given, and what came of each."""
    asker = Asker(one)
    return asker, [asker.give(row) for row in rows]


class MadeTest(BeatCase):
    def test_no_node(self):
        for thing in [*no_texts(), *wild_texts(), KINDS.told(), [KINDS]]:
            if not isinstance(thing, Node):
                for call, more in [(Asker, ()), (run_by_asking, ([],)), (run_by_asking, (None,))]:
                    self.assert_refused(NoNode, {"found": thing}, call, thing, *more)

    def test_the_first_calls_node(self):
        text = "node n in a out x\ny = a\nx z = call m a y\nw = call k a\nv = hold 0 a"
        for call, more in [(Asker, ()), (run_by_asking, ([],)), (run_by_asking, (None,))]:
            self.assert_refused(NoCall, {"name": "m"}, call, read_node(text), *more)
            self.assert_refused(NoCall, {"name": "k"}, call, read_node("node n in a out x\nx = call k x\ny = y"), *more)

    def test_clocks_and_rings(self):
        for call, more in [(Asker, ()), (run_by_asking, ([],)), (run_by_asking, (None,))]:
            for rows, word in [
                (["x = ( a + y )", "y = a when c", "z = z", "same a y"], "two"), (["x = hold 0 a", "z = z"], "hold"),
                (["r = ( r + a )", "y = a when c", "same a y"], "same"),
            ]:
                paper = self.refusal(NoFit, call, node(*rows), *more).paper
                self.assertEqual(paper[0], word)
                self.assertTrue(is_clash(node(*rows), paper))
            rows = ["r = ( r + a )", "z = z", "y = a when c", "same a y"]
            self.assert_refused(NoClock, {"name": "z"}, call, node(*rows), *more)
            ringed = node("x = ( y + a )", "y = ( x + a )")
            self.assertTrue(is_ring(ringed, clocks_of(ringed), self.refusal(Ring, call, ringed, *more).paper))

    def test_at_first_no_beat_is_given(self):
        asker = Asker(KINDS)
        self.assertEqual(asker.beats(), 0)
        self.assertIsNone(asker.faults())
        self.assertEqual(asker.stream("x"), [])
        for beat in (0, -1, 1):
            self.assert_refused(NoBeats, {"found": beat}, asker.row, beat)


class BeatTest(BeatCase):
    def test_all_kinds_of_rows_together(self):
        asker, came = given(KINDS, *ROWS)
        self.assertEqual(came, [True] * 5)
        self.assert_exact([list(asker.row(beat).items()) for beat in range(5)], [list(row.items()) for row in WANTED])

    def streams(self, one, rows, wanted):
        asker, came = given(one, *rows)
        self.assert_exact(came, [True] * len(rows))
        for name, stream in wanted.items():
            self.assert_exact(asker.stream(name), stream)

    def test_plain(self):
        rows = [{"a": 1, "b": 2}, {"a": -3, "b": 7}]
        one = node("x = ( ( a < b ) ? a : y )", "y = ( b - a )", inputs="a b")
        self.streams(one, rows, {"x": [1, -3], "y": [1, 10]})

    def test_before(self):
        rows = [{"a": 1}, {"a": 2}, {"a": True}]
        one = node("x = before 9 a", "y = before true x", "z = before 5 y", inputs="a")
        self.streams(one, rows, {"x": [9, 1, 2], "y": [True, 9, 1], "z": [5, True, 9]})

    def test_before_fed_back(self):
        one = node("v = before 0 u", "u = ( v + k )", "k = 1 like a", inputs="a")
        self.streams(one, [{"a": 1}, {"a": 2}, {"a": True}], {"v": [0, 1, 2], "u": [1, 2, 3]})

    def test_a_before_at_the_first_beat_of_its_clock(self):
        rows = [{"a": 1, "c": False}, {"a": 2, "c": True}, {"a": 3, "c": False}, {"a": 4, "c": True}]
        one = node("y = a when c", "x = before 9 y", inputs="a c")
        self.streams(one, rows, {"y": [None, 2, None, 4], "x": [None, 9, None, 2]})

    def test_when(self):
        pairs = [(1, True), (True, False), (False, True), (3, 1), (3, 0)]
        rows = [{"a": a, "c": c} for a, c in pairs]
        one = node("x = a when c", "y = c when c", "z = x when y", inputs="a c")
        wanted = [1, None, False, None, None]
        self.streams(one, rows, {"x": wanted, "y": [True, None, True, None, None], "z": wanted})

    def test_a_number_is_not_true(self):
        for value in (1, -1, 0, 7, 10 ** 9):
            self.streams(node("x = a when c", inputs="a c"), [{"a": 5, "c": value}], {"x": [None]})

    def test_hold(self):
        pairs = [(1, False), (2, True), (3, False), (4, False), (5, True)]
        rows = [{"a": a, "c": c} for a, c in pairs]
        one = node("y = a when c", "x = hold -1 y", inputs="a c")
        self.streams(one, rows, {"x": [-1, 2, 2, 2, 5]})

    def test_a_hold_on_a_clock(self):
        rows = [
            {"a": at, "c": c, "d": d}
            for at, (c, d) in enumerate([(False, True), (True, False), (True, True), (False, False), (True, False)])
        ]
        one = node("y = a when c", "k = d when c", "z = y when k", "x = hold -1 z", "w = hold -2 x", inputs="a c d")
        self.streams(one, rows, {
            "z": [None, None, 2, None, None], "x": [None, -1, 2, None, 2], "w": [-2, -1, 2, 2, 2],
        })

    def test_like(self):
        rows = [{"a": 1, "c": False}, {"a": 2, "c": True}]
        self.streams(node("y = a when c", "x = 7 like y", "z = false like a", inputs="a c"), rows, {
            "x": [None, 7], "z": [False, False],
        })

    def test_fed_back_on_a_clock(self):
        rows = [{"a": 1, "c": c} for c in (True, False, True, True, False, True)]
        one = node("x = before 0 y", "y = ( x + z )", "z = a when c", "s = hold 0 y", inputs="a c")
        self.streams(one, rows, {
            "x": [0, None, 1, 2, None, 3], "y": [1, None, 2, 3, None, 4], "s": [1, 1, 2, 3, 3, 4],
        })

    def test_rows_with_more_names_than_inputs(self):
        asker, came = given(node("x = a", inputs="a"), {"a": 1, "x": 9, "b": [], 7: None, ("a",): "a"})
        self.assertEqual((came, asker.row(0)), ([True], {"a": 1, "x": 1}))

    def test_a_row_that_is_changed_behind(self):
        row = {"a": 1}
        asker, _ = given(node("x = a", inputs="a"), row)
        row["a"] = 2
        row.clear()
        self.assertEqual(asker.row(0), {"a": 1, "x": 1})

    def test_the_row_stays(self):
        row = {"a": 1, "x": 9, "b": [1]}
        given(node("x = a", inputs="a"), row)
        self.assertEqual(row, {"a": 1, "x": 9, "b": [1]})

    def test_many_nodes(self):
        chance = random.Random(73)
        for _ in range(150):
            one, truths = sound_node(chance, chance.randint(3, 20))
            rows = some_rows(chance, one, truths, chance.randint(0, 15))
            played = Played(one, rows)
            asker, came = given(one, *rows[:len(played.told) + 1])
            self.assertEqual(came, [True] * len(played.told) + [False] * (played.faults is not None))
            for beat, row in enumerate(played.told):
                self.assert_exact(list(asker.row(beat).items()), list(row.items()))
            self.assert_exact(asker.faults(), played.faults)


class GiveRefusedTest(BeatCase):
    def test_no_input(self):
        one = node("x = ( a + b )", inputs="a b")
        for row, name in [
            ({}, "a"), ({"a": 1}, "b"), ({"b": 1}, "a"), ({"a": 1, "b": None}, "b"), ({"a": "1", "b": "2"}, "a"),
            ({"a": 1, "b": 10 ** 9 + 1}, "b"), ({"a": [1], "b": 1}, "a"), ({"a": 1, "x": 1}, "b"),
            ({"b": 1, "c": 1}, "a"),
        ]:
            asker = Asker(one)
            for beat in range(3):
                self.assert_refused(NoInput, {"name": name, "beat": beat}, asker.give, row)
                self.assertIs(asker.give({"a": 1, "b": 2}), True)

    def test_a_thing_that_is_no_dict(self):
        asker = Asker(node("x = ( b + a )", inputs="b a"))
        for thing in [*NO_ROWS, *wild_texts(), ["a", "b"], [("a", 1), ("b", 1)], "ab"]:
            self.assert_refused(NoInput, {"name": "b", "beat": 0}, asker.give, thing)

    def test_200_beats_and_one_more(self):
        asker = Asker(node("x = a", inputs="a"))
        for beat in range(200):
            self.assertIs(asker.give({"a": beat}), True)
        for row in ({"a": 1}, {}, None):
            self.assert_refused(NoBeats, {"found": 200}, asker.give, row)
        self.assertEqual(asker.stream("x"), list(range(200)))
        self.assertEqual(asker.beats(), 200)

    def test_a_fault_at_the_last_beat(self):
        asker = Asker(ONE)
        for beat in range(199):
            self.assertIs(asker.give({"a": 1}), True)
        self.assertIs(asker.give({"a": 0}), False)
        self.assertEqual(asker.beats(), 199)
        self.assert_refused(NoBeats, {"found": 200}, asker.give, {"a": 1})

    def test_a_run_that_is_over(self):
        for many in range(4):
            asker, came = given(ONE, *[{"a": 1}] * many, {"a": 0})
            self.assertEqual(came, [True] * many + [False])
            for row in ({"a": 1}, {"a": 0}, {}, None):
                self.assert_refused(NoBeats, {"found": many + 1}, asker.give, row)
            self.assertEqual(asker.beats(), many)

    def test_a_refused_beat_changes_nothing(self):
        asker, _ = given(KINDS, *ROWS[:2])
        self.assert_refused(NoInput, {"name": "c", "beat": 2}, asker.give, {"a": 8})
        self.assertEqual((asker.beats(), asker.faults()), (2, None))
        for row in ROWS[2:]:
            asker.give(row)
        self.assert_exact([asker.row(beat) for beat in range(5)], WANTED)


class FaultsTest(BeatCase):
    def over(self, one, rows, wanted, names=()):
        """The run is over at the last of the rows, with these faults; the names have values at the beats ahead."""
        asker, came = given(one, *rows)
        self.assertEqual(came, [True] * (len(rows) - 1) + [False])
        self.assert_exact(asker.faults(), (len(rows) - 1, wanted))
        self.assertEqual(asker.beats(), len(rows) - 1)
        for name in names:
            self.assertEqual(len(asker.stream(name)), len(rows) - 1)

    def test_each_word(self):
        self.over(ONE, [{"a": 3}, {"a": 0}], [("x", "nought")], ["a", "x"])
        self.over(ONE, [{"a": True}], [("x", "kind")])
        self.over(node("x = ( a * a )", inputs="a"), [{"a": 10 ** 5}], [("x", "great")])
        self.over(node("x = ( a ? 1 : 2 )", inputs="a"), [{"a": True}, {"a": False}, {"a": 1}], [("x", "kind")])
        self.over(node("x = ( 7 mod a )", inputs="a"), [{"a": 1}, {"a": 0}], [("x", "nought")])
        self.over(node("x = ( ! a )", inputs="a"), [{"a": 0}], [("x", "kind")])

    def test_a_truth_as_a_number_and_a_number_as_a_truth(self):
        self.over(node("x = ( a + 1 )", inputs="a"), [{"a": 1}, {"a": True}], [("x", "kind")])
        self.over(node("x = ( a & a )", inputs="a"), [{"a": True}, {"a": 1}], [("x", "kind")])
        self.over(node("x = ( a = 1 )", inputs="a"), [{"a": 1}, {"a": True}], [("x", "kind")])

    def test_several_in_the_order_of_texts(self):
        rows = ["z = ( 1 / a )", "y = ( a + true )", "x = ( a * 1000000000 )", "ab = ( ! a )", "b = ( a mod 0 )"]
        one = node(*rows, inputs="a")
        self.over(one, [{"a": 9}], [
            ("ab", "kind"), ("b", "nought"), ("x", "great"), ("y", "kind"),
        ])
        self.over(one, [{"a": 0}], [("ab", "kind"), ("b", "nought"), ("y", "kind"), ("z", "nought")])

    def test_names_with_points_in_the_order_of_texts(self):
        rows = [("plain", name, ("not", ("name", "a"))) for name in ("b", "a.b", "ab", "a.b.c", "c")]
        one = Node("n", ["a"], ["b"], rows)
        self.over(one, [{"a": 1}], [(name, "kind") for name in ("a.b", "a.b.c", "ab", "b", "c")])

    def test_lost_names_are_not_among_them(self):
        rows = [
            "x = ( 1 / a )", "y = ( x + 1 )", "z = ( y / 0 )", "w = before 0 x", "v = 1 like x", "u = ( w / a )",
            "t = ( x / 0 )", "s = ( t + z )",
        ]
        self.over(node(*rows, inputs="a"), [{"a": 0}], [("u", "nought"), ("x", "nought")])

    def test_names_whose_clocks_last_name_is_lost(self):
        # k faults, so all on its clock are lost, befores and likes too; l is lost, as it reads k.
        one = node(
            "k = ( a < 5 )", "y = b when k", "z = before 0 y", "w = 1 like y", "v = ( w / 0 )", "u = hold 0 y",
            "t = ( u / 0 )",
            "l = ( ! k )", "s = b when l", "r = ( s / 0 )", "q = ( b / 0 )", "o = ( b + 1 )", inputs="a b",
        )
        self.over(one, [{"a": True, "b": 1}], [("k", "kind"), ("q", "nought")])

    def test_names_that_are_still_do_not_fault(self):
        one = node("y = a when c", "x = ( 1 / y )", inputs="a c")
        rows = [{"a": a, "c": c} for a, c in [(0, False), (1, True), (0, 1), (0, True)]]
        self.over(one, rows, [("x", "nought")])

    def test_a_hold_of_a_lost_name_is_lost(self):
        # Where the clock below is still the hold tells what it kept, whatever would come.
        one = node("y = a when c", "z = ( 1 / y )", "x = hold 5 z", "w = ( x / 0 )", inputs="a c")
        self.over(one, [{"a": 0, "c": False}], [("w", "nought")])
        self.over(one, [{"a": 0, "c": True}], [("z", "nought")])

    def test_befores_and_likes_do_not_read(self):
        one = node("x = ( 1 / a )", "y = before 0 x", "z = 1 like x", "w = ( y / 0 )", "v = ( z / 0 )", inputs="a")
        self.over(one, [{"a": 0}], [("v", "nought"), ("w", "nought"), ("x", "nought")])

    def test_both_sides_of_a_pick_and_both_parts(self):
        self.over(node("x = ( ( a = a ) ? a : ( a / 0 ) )", inputs="a"), [{"a": 1}], [("x", "nought")])
        self.over(node("x = ( ( a < a ) ? ( a / 0 ) : a )", inputs="a"), [{"a": 1}], [("x", "nought")])
        self.over(node("x = ( ( a < a ) & ( ( a / 0 ) = 0 ) )", inputs="a"), [{"a": 1}], [("x", "nought")])
        self.over(node("x = ( ( a = a ) | ( ( a * 1000000000 ) = 0 ) )", inputs="a"), [{"a": 2}], [("x", "great")])
        self.over(node("x = ( ( ! a ) ? ( 1 / 0 ) : a )", inputs="a"), [{"a": 2}], [("x", "kind")])

    def test_nothing_of_that_beat_is_told(self):
        asker, _ = given(ONE, {"a": 1}, {"a": 2}, {"a": 0})
        self.assertEqual(asker.stream("a"), [1, 2])
        for call, more in [(asker.row, ()), (asker.outs_at, ()), (asker.value, ("a",))]:
            self.assert_refused(NoBeats, {"found": 2}, call, *more, 2)

    def test_told_lists_are_new(self):
        asker, _ = given(ONE, {"a": 0})
        asker.faults()[1].clear()
        self.assertEqual(asker.faults(), (0, [("x", "nought")]))


class AskedTest(BeatCase):
    def asker(self):
        return given(KINDS, *ROWS)[0]

    def test_beats(self):
        asker = Asker(KINDS)
        for many, row in enumerate(ROWS):
            self.assertEqual(asker.beats(), many)
            asker.give(row)
        self.assertEqual(asker.beats(), 5)

    def test_value_and_stream(self):
        asker = self.asker()
        for name in KINDS.names():
            wanted = [row.get(name) for row in WANTED]
            self.assert_exact([asker.value(name, beat) for beat in range(5)], wanted)
            self.assert_new_list(lambda: asker.stream(name), wanted)

    def test_row(self):
        asker = self.asker()
        told = asker.row(1)
        told["y"] = 9
        told.clear()
        self.assert_exact(asker.row(1), WANTED[1])

    def test_outs_in_the_order_of_the_outs(self):
        asker = self.asker()
        self.assert_exact(list(asker.outs_at(0).items()), [("x", 5), ("d", True)])
        self.assert_exact(list(asker.outs_at(1).items()), [("x", 2), ("w", 7), ("d", False)])
        self.assert_exact(list(asker.outs_at(2).items()), [("x", 2), ("d", True)])
        asker.outs_at(1).clear()
        self.assertEqual(len(asker.outs_at(1)), 3)
        other, _ = given(read_node("node n in a out y x\nx = a\ny = x"), {"a": 1})
        self.assertEqual(list(other.outs_at(0)), ["y", "x"])

    def test_unknown(self):
        asker = self.asker()
        for thing in STRANGE:
            self.assert_refused(Unknown, {"name": thing}, asker.value, thing, 0)
            self.assert_refused(Unknown, {"name": thing}, asker.value, thing, thing)
            self.assert_refused(Unknown, {"name": thing}, asker.stream, thing)
        self.assert_refused(Unknown, {"name": "none"}, asker.value, "none", 99)

    def test_no_beats(self):
        asker = self.asker()
        for thing in [*no_texts(), *wild_texts(), -1, 5, 6, 200, -5, 10 ** 60, True, False, "0", [0], (0,), None]:
            if not (isinstance(thing, int) and not isinstance(thing, bool) and 0 <= thing < 5):
                self.assert_refused(NoBeats, {"found": thing}, asker.value, "x", thing)
                self.assert_refused(NoBeats, {"found": thing}, asker.row, thing)
                self.assert_refused(NoBeats, {"found": thing}, asker.outs_at, thing)

    def test_what_was_told_stays(self):
        asker = Asker(KINDS)
        for many, row in enumerate(ROWS):
            asker.give(row)
            self.assert_exact([asker.row(beat) for beat in range(many + 1)], WANTED[:many + 1])

    def test_two_askers_have_nothing_in_common(self):
        one, other = Asker(KINDS), Asker(KINDS)
        for row in ROWS:
            one.give(row)
        self.assertEqual(other.beats(), 0)
        other.give(ROWS[1])
        self.assertEqual(other.value("p", 0), 100)
        self.assert_exact([one.row(beat) for beat in range(5)], WANTED)


class RunTest(BeatCase):
    def test_runs(self):
        for rows in ([], ROWS[:1], ROWS):
            for kind in (list, tuple):
                self.assert_exact(run_by_asking(KINDS, kind(rows)), (WANTED[:len(rows)], None))

    def test_200_rows(self):
        told, faults = run_by_asking(node("x = before 0 a", inputs="a"), [{"a": at} for at in range(200)])
        self.assertEqual((len(told), faults), (200, None))
        self.assertEqual(told[199], {"a": 199, "x": 198})

    def test_201_rows_and_what_is_no_list(self):
        for rows in ([{"a": 1}] * 201, ({"a": 1},) * 201, [None] * 201, [{"a": 0}] * 300):
            self.assertIs(self.refusal(NoBeats, run_by_asking, ONE, rows).found, rows)
        for thing in [*no_texts(), *wild_texts(), {0: {"a": 1}}, ONE]:
            if not isinstance(thing, (list, tuple)):
                self.assert_refused(NoBeats, {"found": thing}, run_by_asking, ONE, thing)

    def test_a_fault(self):
        rows = [{"a": 1}, {"a": 2}, {"a": 0}, {"a": 1}]
        told = ([{"a": 1, "x": 10}, {"a": 2, "x": 5}], (2, [("x", "nought")]))
        for many in (3, 4):
            self.assert_exact(run_by_asking(ONE, rows[:many]), told)

    def test_no_input_of_a_row_behind(self):
        for rows, beat in [([{}], 0), ([{"a": 1}, {"x": 1}], 1), ([{"a": 1}] * 7 + [None, {}], 7)]:
            self.assert_refused(NoInput, {"name": "a", "beat": beat}, run_by_asking, ONE, rows)

    def test_none_of_rows_behind_the_beat_at_which_it_is_over(self):
        for rest in ([{}], [None, []], [{"a": 1}, "a"]):
            self.assertEqual(run_by_asking(ONE, [{"a": 0}, *rest]), ([], (0, [("x", "nought")])))

    def test_no_beats_ahead_of_no_input(self):
        rows = [{}] * 201
        self.assertIs(self.refusal(NoBeats, run_by_asking, ONE, rows).found, rows)

    def test_told_and_handed_in_lists(self):
        rows = [dict(row) for row in ROWS]
        told = run_by_asking(KINDS, rows)
        self.assertEqual(rows, ROWS)
        rows[0]["a"] = 9
        rows.clear()
        self.assert_exact(told[0], WANTED)
        told[0][0].clear()
        told[0].clear()
        self.assert_exact(run_by_asking(KINDS, ROWS)[0], WANTED)

    def test_rows_of_the_node_in_another_order(self):
        chance = random.Random(77)
        name, inputs, outs, rows = KINDS.told()
        for _ in range(20):
            other = Node(name, inputs, outs, chance.sample(rows, len(rows)))
            told, faults = run_by_asking(other, ROWS)
            self.assertEqual((told, faults), (WANTED, None))
            self.assertEqual([list(row) for row in told], [[n for n in other.names() if n in row] for row in told])

    def test_200_names_and_200_beats_in_seconds(self):
        names = ["x" + chr(97 + at // 26) + chr(97 + at % 26) for at in range(199)]
        pairs = zip(["a", *names], names)
        rows = [f"{name} = ( ( ( {ahead} + a ) - ( 3 * a ) ) mod ( a + 7 ) )" for ahead, name in pairs]
        one = node(*reversed(rows), inputs="a")
        began = time.monotonic()
        told, faults = run_by_asking(one, [{"a": at} for at in range(200)])
        self.assertEqual((len(told), faults, len(told[199])), (200, None, 200))
        self.assertLess(time.monotonic() - began, 20)


if __name__ == "__main__":
    unittest.main()
