import random
import unittest

from beatrows.apart import goes_apart
from beatrows.asking import run_by_asking
from beatrows.clockpapers import is_clash
from beatrows.clocks import clocks_of, ticks
from beatrows.errors import NoBeats, NoCall, NoCells, NoClock, NoFit, NoInput, NoNode, Ring
from beatrows.loops import Loop
from beatrows.nodes import Node
from beatrows.nodetext import read_node
from beatrows.orders import is_ring

from cases import BeatCase, no_texts, some_rows, sound_node, wild_texts

ONE = read_node("""node n in a c out x
x = before 0 a
w = ( x + 1 )
y = a when c
z = before 5 y
h = hold 6 y
q = ( 7 / w )
v = ( z < 3 )
u = y when v""")
FIRST = {"x": 1, "z": 2, "h": 3}


def rows(*texts):
    """Rows of a and c, c being true where the text has a mark behind the number."""
    return [{"a": int(text.rstrip("!")), "c": text.endswith("!")} for text in texts]


def node(*lines, inputs="a b c"):
    told = [line.split(" ")[0] for line in lines if not line.startswith("same")]
    return read_node("\n".join([f"node n in {inputs} out {told[0]}", *lines]))


def apart_by_runs(one, first, second, given):
    """Likewise by what both loops tell, one behind the other."""
    told = []
    for cells in (first, second):
        loop = Loop(one).stood_at(cells)
        beats = []
        for row in given:
            if loop.faults() is None:
                beats.append(loop.step(row))
        told.append((beats, dict(loop.faults()[1]) if loop.faults() else {}))
    for beat in range(min(len(beats) for beats, _ in told)):
        one_row, other_row = [beats[beat] for beats, _ in told]
        if one_row is None or other_row is None:
            one_row, other_row = [faults if beats[beat] is None else {} for beats, faults in told]
        names = [name for name in one.names() if repr(one_row.get(name)) != repr(other_row.get(name))]
        if names:
            return (beat, names)
    return None


class ApartTest(BeatCase):
    def apart(self, wanted, other, given, first=FIRST, one=ONE):
        given = rows(*given) if given and isinstance(given[0], str) else given
        self.assert_exact(goes_apart(one, first, other, given), wanted)
        self.assert_exact(goes_apart(one, other, first, given), wanted)

    def test_alike_through_all_rows(self):
        self.apart(None, FIRST, ["1", "2!", "3", "4!"])
        self.apart(None, {**FIRST, "x": 2}, [])
        self.apart(None, {**FIRST, "z": 7}, ["1", "2", "3"])
        self.apart(None, {**FIRST, "h": 7}, ["1!", "2", "3!"])
        self.apart(None, FIRST, rows(*["1"] * 200))
        self.apart(None, FIRST, tuple(rows("1", "2")))

    def test_apart_by_values(self):
        self.apart((0, ["x", "w", "q"]), {**FIRST, "x": 3}, ["1", "2"])
        self.apart((0, ["x", "w"]), {**FIRST, "x": 2}, ["1", "2"], first={**FIRST, "x": 1}, one=node(
            "x = before 0 a", "z = before 0 a", "h = before 0 a", "w = ( x + 1 )", inputs="a c"))
        self.apart((0, ["h"]), {**FIRST, "h": 4}, ["1", "2!"])
        self.apart((1, ["z"]), {**FIRST, "z": 1}, ["1", "2!"])

    def test_apart_by_a_truth_for_a_number(self):
        self.apart((0, ["h"]), {**FIRST, "h": True}, ["5", "2!"], first={**FIRST, "h": 1})
        self.apart((0, ["h"]), {**FIRST, "h": False}, ["5", "2!"], first={**FIRST, "h": 0})
        self.apart(None, {**FIRST, "h": False}, ["5", "2!"], first={**FIRST, "h": False})

    def test_apart_by_a_name_that_has_a_value_in_one_alone(self):
        self.apart((2, ["z", "v", "u"]), {**FIRST, "z": 3}, ["1", "2", "3!"])
        # A value that comes alike by another way: u alone is there in one of both.
        one = node("z = before 0 a", "k = ( z < 3 )", "u = a when k", "h = hold 1 u", "x = before 0 c", inputs="a c")
        self.apart((0, ["z", "k", "u", "h"]), {**FIRST, "z": 3}, ["7"], one=one)

    def test_faults_of_unlike_words_and_names(self):
        one = node("x = before 0 a", "y = ( 1 / x )", "z = before 1 a", "w = ( z + 1 )", "h = hold 0 k", "k = a when c",
                   inputs="a c")
        self.apart((0, ["y"]), {**FIRST, "x": True}, ["3"], first={**FIRST, "x": 0}, one=one)
        self.apart((0, ["y", "w"]), {**FIRST, "z": True}, ["3"], first={**FIRST, "x": 0}, one=one)
        self.apart((0, ["w"]), {"x": 0, "z": False, "h": 3}, ["3"], first={**FIRST, "x": 0}, one=one)
        self.apart((0, ["w"]), {**FIRST, "z": True}, ["3"], first={**FIRST, "z": 10 ** 9}, one=one)
        self.apart(None, {"x": 0, "z": 9, "h": 3}, ["3"], first={**FIRST, "x": 0}, one=one)
        self.apart(None, {"x": True, "z": 9, "h": 1}, ["3"], first={"x": False, "z": 8, "h": 2}, one=one)

    def test_one_over_and_the_other_not(self):
        self.apart((0, ["q"]), {**FIRST, "x": -1}, ["1", "2"])
        self.apart((1, ["v"]), {**FIRST, "z": True}, ["1", "2!"])

    def test_names_in_the_nodes_order(self):
        one = node("v = ( x + a )", "u = v", "x = before 0 a", "p = ( x = 1 )", "b = ( u + 1 )", "ab = p when p",
                   inputs="a c")
        self.apart((0, ["v", "u", "x", "p", "b", "ab"]), {"x": 2}, ["1"], first={"x": 1}, one=one)
        one = node("v = ( 1 / x )", "u = ( 1 / v )", "x = before 0 a", "p = ( 2 mod x )", "b = ( 3 / x )", inputs="a c")
        self.apart((0, ["v", "p", "b"]), {"x": 0}, ["1"], first={"x": 1}, one=one)

    def test_rows_behind_are_not_looked_at(self):
        bad = [{}, None, "x", [], {"a": True}]
        for thing in bad:
            self.apart((0, ["h"]), {**FIRST, "h": 9}, [*rows("1"), thing])
            self.apart((0, ["q"]), {**FIRST, "x": -1}, [*rows("1"), thing])
            self.apart((1, ["z"]), {**FIRST, "z": 1}, [*rows("1", "2!"), thing, thing])
            self.apart(None, {**FIRST, "z": 9}, [*rows("-1", "1"), thing])
            self.apart(None, {"x": -1, "z": 7, "h": 3}, [*rows("1"), thing], first={"x": -1, "z": 8, "h": 4})

    def test_many_nodes(self):
        chance = random.Random(87)
        seen = {"none": 0, "late": 0, "faults": 0}
        for _ in range(500):
            one, truths = sound_node(chance, chance.randint(3, 16))
            first = Loop(one).cells()
            changed = chance.sample(list(first), min(len(first), 1))
            second = {**first, **{name: chance.choice([0, 1, 2, True, False]) for name in changed}}
            given = some_rows(chance, one, truths, chance.randint(0, 8))
            wanted = apart_by_runs(one, first, second, given)
            self.assert_exact(goes_apart(one, first, second, given), wanted)
            self.assert_exact(goes_apart(one, second, first, given), wanted)
            seen["none"] += wanted is None and first != second
            seen["late"] += wanted is not None and wanted[0] > 0
            seen["faults"] += wanted is not None and Loop(one).stood_at(second).step(given[0]) is None
        self.assertGreater(min(seen.values()), 3, seen)

    def test_what_was_handed_in_stays(self):
        first, second, given = dict(FIRST), dict(FIRST), rows("1", "2!", "3")
        goes_apart(ONE, first, second, given)
        self.assertEqual((first, second, given), (FIRST, FIRST, rows("1", "2!", "3")))
        told = goes_apart(ONE, first, {**FIRST, "h": 9}, given)
        told[1].clear()
        self.assertEqual(goes_apart(ONE, first, {**FIRST, "h": 9}, given), (0, ["h"]))


class RefusedTest(BeatCase):
    def test_as_a_loop_ahead_of_all_else(self):
        more = [({}, [], None), (None, {}, [{}]), (FIRST, FIRST, [])]
        for thing in [*no_texts(), *wild_texts(), ONE.told(), [ONE]]:
            if not isinstance(thing, Node):
                for given in more:
                    self.assert_refused(NoNode, {"found": thing}, goes_apart, thing, *given)
        ringed = node("x = ( y + a )", "y = ( x + a )")
        for given in more:
            called = read_node("node n in a out x\ny = hold 0 a\nx z = call m a y")
            self.assert_refused(NoCall, {"name": "m"}, goes_apart, called, *given)
            clashing = node("x = ( a + y )", "y = a when c", "z = z")
            self.assertTrue(is_clash(clashing, self.refusal(NoFit, goes_apart, clashing, *given).paper))
            clockless = node("r = ( r + a )", "z = z", "y = a when c", "same a y")
            self.assert_refused(NoClock, {"name": "z"}, goes_apart, clockless, *given)
            self.assertTrue(is_ring(ringed, clocks_of(ringed), self.refusal(Ring, goes_apart, ringed, *given).paper))

    def test_cells_of_the_one_then_of_the_other(self):
        wrong = [
            {}, {**FIRST, "w": 1}, {"x": 1, "z": 2}, {**FIRST, "h": None}, {**FIRST, "h": 10 ** 9 + 1},
            {**FIRST, "h": "1"},
            {"x": 1, "z": 2, "y": 3}, list(FIRST.items()), tuple(FIRST), None, Loop(ONE), "xzh", 3, True,
        ]
        for thing in [*no_texts(), *wild_texts(), *wrong]:
            for given in (None, [], [{}], rows("1"), [{}] * 201):
                self.assert_refused(NoCells, {"found": thing}, goes_apart, ONE, thing, FIRST, given)
                self.assert_refused(NoCells, {"found": thing}, goes_apart, ONE, FIRST, thing, given)
        for one in wrong:
            for other in wrong:
                self.assertIs(self.refusal(NoCells, goes_apart, ONE, one, other, None).found, one)

    def test_rows_then_inputs(self):
        for thing in [*no_texts(), *wild_texts(), [{}] * 201, tuple(rows("1")) * 201, {"a": 1}, "x"]:
            if not isinstance(thing, (list, tuple)) or len(thing) > 200:
                self.assert_refused(NoBeats, {"found": thing}, goes_apart, ONE, FIRST, {**FIRST, "h": 9}, thing)
        for row, name in [
            ({}, "a"), ({"a": 1}, "c"), (None, "a"), ([], "a"), ({"c": 1}, "a"), ({"a": 1, "c": None}, "c"),
        ]:
            self.assert_refused(NoInput, {"name": name, "beat": 0}, goes_apart, ONE, FIRST, {**FIRST, "h": 9}, [row])
            given = [*rows("1", "2!"), row, {}]
            self.assert_refused(NoInput, {"name": name, "beat": 2}, goes_apart, ONE, FIRST, FIRST, given)

    def test_cells_in_whatever_order(self):
        self.assertEqual(goes_apart(ONE, dict(reversed(FIRST.items())), FIRST, rows("1", "2!")), None)


class NeededTest(BeatCase):
    def test_each_cell_is_needed(self):
        """Cells alike but for one: the loops tell alike till its name ticks."""
        chance = random.Random(88)
        seen = {"before": 0, "hold": 0, "held": 0}
        while min(seen.values()) < 60:
            one, truths = sound_node(chance, chance.randint(3, 14))
            cells = Loop(one).cells()
            given = some_rows(chance, one, truths, 8)
            if not cells:
                continue
            name = chance.choice(list(cells))
            values = [value for value in (1, 2, 3, True, False) if repr(value) != repr(cells[name])]
            other = {**cells, name: chance.choice(values)}
            kind, _, _, mentioned = one.teller(name).told()
            # Told as far as the first one goes, where its name ticks at the last of these rows.
            told, faults = run_by_asking(one, given)
            at = [beat for beat, row in enumerate(told) if ticks(clocks_of(one)[name], row)]
            ahead = given[:at[0]] if at else given[:len(told)]
            self.assertIsNone(goes_apart(one, cells, other, ahead))
            if not at:
                continue
            first, second = Loop(one).stood_at(cells), Loop(one).stood_at(other)
            for row in ahead:
                self.assert_exact(second.step(row), first.step(row))
            one_row, other_row = first.step(given[at[0]]), second.step(given[at[0]])
            if kind == "hold" and mentioned in told[at[0]]:
                self.assertIsNone(goes_apart(one, cells, other, given))
                seen["held"] += 1
            elif other_row is not None:
                self.assertNotEqual(repr(one_row[name]), repr(other_row[name]))
                self.assertIn(name, goes_apart(one, cells, other, given)[1])
                self.assertEqual(goes_apart(one, cells, other, given)[0], at[0])
                seen[kind] += 1


if __name__ == "__main__":
    unittest.main()
