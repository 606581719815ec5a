import random
import unittest

from beatrows.asking import run_by_asking
from beatrows.errors import NoBeats, NoCall, NoClock, NoFit, NoInput, NoNode, Ring
from beatrows.nodes import Node
from beatrows.nodetext import read_node
from beatrows.running import is_run

from cases import BeatCase, no_texts, some_rows, sound_node, wild_texts

NODE = read_node("node n in a c out x\ny = a when c\nx = hold true y\nz = ( 12 / a )\nb = before 1 a")
ROWS = [{"a": 1, "c": False}, {"a": 2, "c": True}, {"a": 3, "c": 1}]
RIGHT = [
    {"a": 1, "c": False, "x": True, "z": 12, "b": 1}, {"a": 2, "c": True, "y": 2, "x": 2, "z": 6, "b": 1},
    {"a": 3, "c": 1, "x": 2, "z": 4, "b": 2},
]
OVER = [*ROWS, {"a": 0, "c": True}, {"a": 1, "c": True}]
FAULTS = (3, [("z", "nought")])
TWO = read_node("node n in a out x\nx = ( 1 / a )\ny = ( ! a )\nz = ( x + y )")
ANY = [*no_texts(), *wild_texts(), "a", ["a"], ("a",), {"a": 1}]


class RightTest(BeatCase):
    def test_let_by(self):
        self.assertIs(is_run(NODE, ROWS, (RIGHT, None)), True)
        self.assertIs(is_run(NODE, tuple(ROWS), (RIGHT, None)), True)
        self.assertIs(is_run(NODE, OVER, (RIGHT, FAULTS)), True)
        self.assertIs(is_run(NODE, OVER[:4], (RIGHT, FAULTS)), True)
        self.assertIs(is_run(NODE, [], ([], None)), True)
        self.assertIs(is_run(TWO, [{"a": 0}], ([], (0, [("x", "nought"), ("y", "kind")]))), True)

    def test_the_order_of_a_dicts_names_plays_no_part(self):
        turned = [dict(reversed(row.items())) for row in RIGHT]
        self.assertIs(is_run(NODE, ROWS, (turned, None)), True)
        self.assertIs(is_run(NODE, OVER, (turned, FAULTS)), True)

    def test_what_run_by_asking_tells(self):
        chance = random.Random(76)
        for _ in range(60):
            node, truths = sound_node(chance, chance.randint(3, 15))
            rows = some_rows(chance, node, truths, chance.randint(0, 12))
            told, faults = run_by_asking(node, rows)
            self.assertIs(is_run(node, rows, (told, faults)), True)
            if faults is None and told:
                self.assertIs(is_run(node, rows, (told[:-1], None)), False)
                self.assertIs(is_run(node, rows[:-1], (told, None)), False)
            if told:
                beat = chance.randrange(len(told))
                name = chance.choice(node.names())
                value = chance.choice([0, 1, 2, True, False])
                spoilt = [dict(row) for row in told]
                if repr(spoilt[beat].get(name)) != repr(value):
                    spoilt[beat][name] = value
                    self.assertIs(is_run(node, rows, (spoilt, faults)), False)
                if name in told[beat]:
                    del spoilt[beat][name]
                    self.assertIs(is_run(node, rows, (spoilt, faults)), False)

    def test_what_is_asked_stays(self):
        rows, told = [dict(row) for row in OVER], [dict(row) for row in RIGHT]
        thing = (told, (3, [("z", "nought")]))
        is_run(NODE, rows, thing)
        self.assertEqual((rows, thing), (OVER, (RIGHT, FAULTS)))


class WrongTest(BeatCase):
    def wrong(self, thing, rows=ROWS, node=NODE):
        self.assertIs(is_run(node, rows, thing), False)

    def test_values_put_otherwise_left_out_and_more(self):
        for beat, row in enumerate(RIGHT):
            for name in NODE.names():
                for other in [0, 1, 2, 3, True, False, None, "1", [1], (), 10 ** 10, *ANY]:
                    if name not in row or type(other) is not type(row[name]) or other != row[name]:
                        changed = {**row, name: other}
                        self.wrong((RIGHT[:beat] + [changed] + RIGHT[beat + 1:], None))
                        self.wrong((RIGHT[:beat] + [changed] + RIGHT[beat + 1:], FAULTS), OVER)
                if name in row:
                    less = {each: value for each, value in row.items() if each != name}
                    self.wrong((RIGHT[:beat] + [less] + RIGHT[beat + 1:], None))
                    self.wrong((RIGHT[:beat] + [{**less, "none": row[name]}] + RIGHT[beat + 1:], None))
            for name in ("none", "", 0, None, ("a",), True):
                self.wrong((RIGHT[:beat] + [{**row, name: 1}] + RIGHT[beat + 1:], None))
                self.wrong((RIGHT[:beat] + [{**row, name: None}] + RIGHT[beat + 1:], None))

    def test_true_for_1_and_1_for_true(self):
        self.wrong(([{**RIGHT[0], "b": True}, *RIGHT[1:]], None))
        self.wrong(([{**RIGHT[0], "x": 1}, *RIGHT[1:]], None))
        self.wrong(([{**RIGHT[0], "c": 0}, *RIGHT[1:]], None))
        self.wrong(([*RIGHT[:2], {**RIGHT[2], "c": True}], None))

    def test_rows_left_out_and_more(self):
        turned = [RIGHT[1], RIGHT[0], RIGHT[2]]
        for told in (RIGHT[:2], RIGHT[1:], [], RIGHT[:1], [*RIGHT, RIGHT[2]], [*RIGHT, {}], turned):
            self.wrong((told, None))
            self.wrong((told, FAULTS), OVER)

    def test_rows_of_other_kinds(self):
        for thing in [*ANY, list(RIGHT[0].items()), tuple(RIGHT[0]), RIGHT]:
            for at in range(3):
                self.wrong((RIGHT[:at] + [thing] + RIGHT[at + 1:], None))

    def test_faults_where_there_are_none(self):
        for thing in [*ANY, FAULTS, (3, []), (2, [("z", "nought")]), (3, [("z", "kind")]), [], (), False, 0]:
            if thing is not None:
                self.wrong((RIGHT, thing))
        self.wrong(([], (0, [])), [])
        self.wrong(([], (0, [("z", "nought")])), [])

    def test_no_faults_where_there_are_some(self):
        self.wrong((RIGHT, None), OVER)
        self.wrong((RIGHT, None), OVER[:4])
        self.wrong(([*RIGHT, {"a": 0, "c": True, "y": 0, "x": 0, "b": 3}], None), OVER[:4])
        self.wrong(([*RIGHT, {"a": 0, "c": True, "y": 0, "x": 0, "b": 3}], FAULTS), OVER)
        self.wrong(([*RIGHT, {"a": 0, "c": True, "y": 0, "x": 0, "z": 0, "b": 3}], (4, [("z", "nought")])), OVER)

    def test_faults_put_otherwise(self):
        for faults in [
            *ANY, (3, []), (3, [("z", "kind")]), (3, [("z", "great")]), (3, [("x", "nought")]), (2, [("z", "nought")]),
            (4, [("z", "nought")]), (3, (("z", "nought"),)), (3, [["z", "nought"]]), [3, [("z", "nought")]], (3,),
            (3, [("z", "nought")] * 2), (3, [("x", "nought"), ("z", "nought")]), (3, ("z", "nought")),
            (True, FAULTS[1]),
            (3, FAULTS[1], None), (3, {"z": "nought"}), (None, FAULTS[1]), ("3", FAULTS[1]), (3, [("z", "nought", 1)]),
            (3, None), (3, [None]), (3, [("z", None)]), ([3], FAULTS[1]), (3, [("z",)]), (-1, FAULTS[1]),
        ]:
            self.wrong((RIGHT, faults), OVER)

    def test_the_number_of_the_beat_is_no_truth(self):
        rows, told = [{"a": 1}, {"a": 0}], [{"a": 1, "x": 1}]
        node = read_node("node n in a out x\nx = ( 1 / a )")
        self.assertIs(is_run(node, rows, (told, (1, [("x", "nought")]))), True)
        self.wrong((told, (True, [("x", "nought")])), rows, node)
        self.wrong(([], (False, [("x", "nought")])), rows[1:], node)
        self.assertIs(is_run(node, rows[1:], ([], (0, [("x", "nought")]))), True)

    def test_the_faults_list_in_another_order_left_out_and_empty(self):
        x, y = ("x", "nought"), ("y", "kind")
        for faults in ([y, x], [x], [y], [], [x, y, ("z", "kind")], [x, x, y], (x, y)):
            self.wrong(([], (0, faults)), [{"a": 0}], TWO)

    def test_things_of_other_kinds(self):
        for thing in [
            *ANY, [RIGHT, None], (RIGHT,), (RIGHT, None, None), (tuple(RIGHT), None), ({0: RIGHT[0]}, None), RIGHT,
            (None, None),
            (None, RIGHT), ((), None), ("", None), NODE, (RIGHT[0], None),
        ]:
            self.wrong(thing)
            self.wrong(thing, OVER)
            self.wrong(thing, [])


class RefusedTest(BeatCase):
    def test_as_an_asker(self):
        for thing in [*no_texts(), *wild_texts()]:
            if not isinstance(thing, Node):
                self.assert_refused(NoNode, {"found": thing}, is_run, thing, None, None)
        text = "node n in a out x\nx = call m a"
        self.assert_refused(NoCall, {"name": "m"}, is_run, read_node(text), None, None)
        self.refusal(NoFit, is_run, read_node("node n in a out x\nx = hold 0 a"), None, None)
        self.assert_refused(NoClock, {"name": "x"}, is_run, read_node("node n in a out x\nx = x"), None, None)
        ring = read_node("node n in a out x\nx = ( x + a )")
        self.assert_refused(Ring, {"paper": ["x"]}, is_run, ring, None, None)

    def test_no_beats(self):
        for rows in [*ANY, [ROWS[0]] * 201, tuple([ROWS[0]] * 300), NODE]:
            if not isinstance(rows, (list, tuple)) or len(rows) > 200:
                for thing in (None, (RIGHT, None), ([], None)):
                    self.assertIs(self.refusal(NoBeats, is_run, NODE, rows, thing).found, rows)

    def test_no_input_ahead_of_what_is_told_of_the_beat(self):
        for at in range(3):
            for row, name in [({}, "a"), (None, "a"), ([], "a"), ({"a": 1}, "c"), ({"a": 1, "c": "true"}, "c")]:
                rows = ROWS[:at] + [row] + ROWS[at + 1:]
                for told in (RIGHT, RIGHT[:at] + [{}, {}][:3 - at], RIGHT[:at] + [None], RIGHT[:at]):
                    for faults in (None, FAULTS, 7, (at, [("z", "nought")])):
                        self.assert_refused(NoInput, {"name": name, "beat": at}, is_run, NODE, rows, (told, faults))

    def test_rows_that_are_not_looked_at(self):
        for thing in [
            *ANY, [[], None], ([],), ([], None, None), ((), None), ([{}] * 4, None), ([None] * 4, None), (None, None),
            ({}, None),
        ]:
            self.assertIs(is_run(NODE, [{}, None, {}], thing), False)

    def test_none_behind_a_beat_that_is_not_right(self):
        self.assertIs(is_run(NODE, [ROWS[0], None], ([{}, {}], None)), False)
        self.assertIs(is_run(NODE, [ROWS[0], None], ([], None)), False)
        self.assertIs(is_run(NODE, [ROWS[0], None], ([], (0, [("z", "nought")]))), False)
        self.assertIs(is_run(NODE, [ROWS[0], ROWS[1], None], ([RIGHT[0], RIGHT[0]], None)), False)
        self.assertIs(is_run(NODE, [OVER[3], None], ([], None)), False)
        self.assertIs(is_run(NODE, [OVER[3], None], ([{}], None)), False)

    def test_none_behind_the_beat_with_which_it_is_over(self):
        self.assertIs(is_run(NODE, [*OVER[:4], None, {}], (RIGHT, FAULTS)), True)
        self.assertIs(is_run(NODE, [*OVER[:4], None, {}], (RIGHT, (3, []))), False)

    def test_200_rows(self):
        node = read_node("node n in a out x\nx = before 0 a")
        rows = [{"a": at} for at in range(200)]
        told = run_by_asking(node, rows)
        self.assertIs(is_run(node, rows, told), True)
        told[0][199]["x"] = 7
        self.assertIs(is_run(node, rows, told), False)


if __name__ == "__main__":
    unittest.main()
