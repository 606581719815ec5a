import random
import unittest

from beatrows.errors import Hidden, NoBeats, NoClock, NoFit, NotYet, NoValue, Ring, Twice, Unknown
from beatrows.loops import Loop
from beatrows.parts import Part
from beatrows.programs import read_program
from beatrows.telling import summary_of
from beatrows.writing import written_out

from cases import BeatCase, Fitted, Played, no_texts, some_rows, sound_program, wild_texts

LOW = """node low in a c out x o y z v
o = ( c = true )
x = a when o
p = before 0 a
y = hold 1 x
z = ( p + 1 )
q = ( 10 / a )
v = before 5 q"""
# The last call has an own out as an arg, on which this one doesn't hang.
TOP = LOW + """
node back in a c out z w
p = before 0 a
k = before 0 c
z = ( ( k = k ) ? ( p + 1 ) : 0 )
w = ( a + p )
node mid in b e out r f
s t u w g = call low b e
r = ( u + w )
f = hold 7 s
node top in d k n out i j l
i j = call mid d k
l m = call mid i n
p h = call back p n"""
EMPTY = "node n in a c out x y z\nx = before 0 a\ny = ( c + 1 )\nz = ( a + c )"


def program(*texts):
    return read_program("\n".join(texts))


def closed(part, *rows):
    """What is told when each beat is closed that is given by a row."""
    told = []
    for row in rows:
        part.begin(True)
        for name, value in row.items():
            part.give(name, value)
        told.append(part.close())
    return told


def low_rows(*pairs):
    return [{"a": a, "c": c} for a, c in pairs]


class MadeTest(BeatCase):
    def test_unknown_of_any_strange_thing(self):
        for thing in [*no_texts(), *wild_texts(), "x", "tops", ["top"], "top.i"]:
            self.assert_refused(Unknown, {"name": thing}, Part, program(TOP), thing)

    def test_refused_as_the_summary_is(self):
        good = "node ok in a c out x\nx = ( a + c )"
        for kind, rows in [
            (NoFit, "x = hold 0 a"), (NoFit, "y = a when c\nx = ( y + a )"), (NoFit, "y = a when c\nsame y a\nx = a"),
            (NoClock, "x = x"), (Ring, "x = ( y + a )\ny = x"), (Hidden, "k = ( a < 1 )\nx = a when k"),
        ]:
            made = program(good, f"node n in a c out x\n{rows}", "node over in a c out x\nx = call n a c",
                           "node up in a c out x\nx = call over a c\ny = ( y + a )")
            for name in ("n", "over", "up"):
                wanted = self.refusal(kind, summary_of, made, name)
                found = self.refusal(kind, Part, made, name)
                self.assertEqual(list(vars(found)), list(vars(wanted)))
                self.assert_exact(list(vars(found).values()), list(vars(wanted).values()))
            Part(made, "ok")
        made = program(good, "node n in a c out x\ny = call ok a c\nx = ( y + x )",
                       "node up in a c out x\nx = call n a c")
        for name in ("n", "up"):
            self.assert_refused(Ring, {"paper": ["x"]}, Part, made, name)

    def test_of_any_sound_node(self):
        for name in ("low", "mid", "top"):
            part = Part(program(TOP), name)
            self.assertEqual(part.beats(), 0)
            self.assert_refused(NoBeats, {"found": 0}, part.row)

    def test_beats_closed_without_the_one_with_faults(self):
        part = Part(program(LOW), "low")
        for beat in range(3):
            self.assertEqual(part.beats(), beat)
            self.assertIsNone(part.begin(True))
            self.assertEqual(part.beats(), beat)
            self.assertIsNone(part.give("a", 2))
            self.assertIsNone(part.give("c", True))
            self.assertEqual(part.close(), [])
        self.assertEqual(closed(part, {"a": 0, "c": True}), [[("q", "nought")]])
        self.assertEqual(part.beats(), 3)


class BeginTest(BeatCase):
    WRONG = [thing for thing in [*no_texts(), *wild_texts(), "True", "x", [True], (None,)]
             if thing is not True and thing is not False and thing is not None]

    def test_things_of_other_kinds_ahead_of_the_number(self):
        fresh, over, full, opened = [Part(program(LOW), "low") for _ in range(4)]
        closed(over, *low_rows((1, True), (0, True)))
        closed(full, *low_rows(*[(1, True)] * 200))
        opened.begin(None)
        for part, many in [(over, 1), (full, 200), (opened, 0), (fresh, None)]:
            for thing in self.WRONG:
                self.assert_refused(NoBeats, {"found": thing}, part.begin, thing)
            for thing in (True, False, None):
                if many is not None:
                    self.assert_refused(NoBeats, {"found": many}, part.begin, thing)
        fresh.begin(False)

    def test_a_beat_opened_twice(self):
        for first in (True, False, None):
            part = Part(program(EMPTY), "n")
            part.begin(False)
            part.close()
            part.begin(first)
            for second in (True, False, None):
                self.assert_refused(NoBeats, {"found": 1}, part.begin, second)
            if first is True:
                part.give("a", 1)
                part.give("c", 1)
            self.assertEqual(part.close(), [])
            part.begin(first)

    def test_behind_the_last_beat_and_behind_a_fault(self):
        part = Part(program(EMPTY), "n")
        for beat in range(200):
            part.begin([True, False, None][beat % 3])
            if beat % 3 == 0:
                part.give("a", beat)
                part.give("c", 1)
            self.assertEqual(part.close(), [])
        for ticks in (True, False, None):
            self.assert_refused(NoBeats, {"found": 200}, part.begin, ticks)
        self.assertEqual((part.beats(), part.row(), part.cells()), (200, {}, {"x": 198}))
        part = Part(program(EMPTY), "n")
        closed(part, {"a": 1, "c": 1}, {"a": 1, "c": True})
        for ticks in (True, False, None):
            self.assert_refused(NoBeats, {"found": 1}, part.begin, ticks)


class GiveTest(BeatCase):
    def test_in_any_order_and_lost(self):
        for order in (["a", "c"], ["c", "a"]):
            for values, wanted in [
                ({"a": 3, "c": 4}, {"x": ("value", 0), "y": ("value", 5), "z": ("value", 7)}),
                ({"a": None, "c": 4}, {"x": ("value", 0), "y": ("value", 5), "z": ("lost", None)}),
                ({"a": 3, "c": None}, {"x": ("value", 0), "y": ("lost", None), "z": ("lost", None)}),
                ({"a": False, "c": True}, {"x": ("value", 0), "y": ("fault", "kind"), "z": ("fault", "kind")}),
            ]:
                part = Part(program(EMPTY), "n")
                part.begin(True)
                for name in order:
                    part.give(name, values[name])
                self.assert_exact({out: part.tell(out) for out in "xyz"}, wanted)

    def test_each_refusal_and_each_pair(self):
        part = Part(program(EMPTY), "n")
        strange = [*no_texts(), *wild_texts(), "x", "n", "b", ["a"]]
        wrong = [thing for thing in [*no_texts(), *wild_texts()] if not isinstance(thing, bool) and thing is not None
                 and thing not in (0, 1, 7, -1)]

        def not_open(many):
            for name in ["a", *strange]:
                self.assert_refused(NoBeats, {"found": many}, part.give, name, [])

        for many, ticks in enumerate((False, None, False)):
            not_open(many)
            part.begin(ticks)
            not_open(many)
            part.close()
        part.begin(True)
        for value in (1, None, []):
            for name in strange:
                self.assert_refused(Unknown, {"name": name}, part.give, name, value)
        for value in wrong:
            self.assert_refused(NoValue, {"found": value}, part.give, "a", value)
        part.give("a", None)
        for value in (None, 1, [], "x"):
            self.assert_refused(Twice, {"name": "a"}, part.give, "a", value)
            for name in strange:
                self.assert_refused(Unknown, {"name": name}, part.give, name, value)
        for value in wrong:
            self.assert_refused(NoValue, {"found": value}, part.give, "c", value)
        part.give("c", -10 ** 9)
        for name in ("a", "c"):
            self.assert_refused(Twice, {"name": name}, part.give, name, 1)
        part.close()
        not_open(4)
        part.begin(True)
        part.give("c", True)
        part.give("a", 10 ** 9)
        self.assertEqual(part.close(), [("y", "kind"), ("z", "kind")])
        not_open(4)

    def test_what_is_refused_changes_nothing(self):
        part = Part(program(EMPTY), "n")
        part.begin(True)
        for name, value in [("x", 1), ("a", []), ("c", "1"), (None, None)]:
            self.assertRaises(ValueError, part.give, name, value)
        self.assertEqual(part.lacking("z"), ["a", "c"])
        part.give("a", 1)
        self.assertRaises(Twice, part.give, "a", 2)
        self.assertRaises(NoBeats, part.begin, True)
        self.assertRaises(NotYet, part.close)
        part.give("c", 1)
        self.assert_exact(part.tell("z"), ("value", 2))


class TellTest(BeatCase):
    def test_lacking(self):
        part = Part(program(LOW), "low")
        part.begin(True)
        wanted = {"x": ["a", "c"], "o": ["c"], "y": ["a", "c"], "z": [], "v": []}
        self.assert_exact({out: part.lacking(out) for out in wanted}, wanted)
        self.assertEqual(part.tell("z"), ("value", 1))
        self.assertEqual(part.tell("v"), ("value", 5))
        part.give("c", True)
        wanted = {"x": ["a"], "o": [], "y": ["a"], "z": [], "v": []}
        self.assert_exact({out: part.lacking(out) for out in wanted}, wanted)
        self.assertEqual(part.tell("o"), ("value", True))
        part.give("a", 5)
        self.assert_exact({out: part.lacking(out) for out in wanted}, {out: [] for out in wanted})
        self.assertEqual(part.tell("x"), ("value", 5))
        self.assert_new_list(lambda: Part.lacking(part, "x"), [])

    def test_the_inputs_in_the_nodes_order(self):
        part = Part(program("node n in c a b out x\nx = ( b + ( a + c ) )"), "n")
        part.begin(True)
        self.assert_new_list(lambda: part.lacking("x"), ["c", "a", "b"])
        part.give("a", 1)
        self.assertEqual(part.lacking("x"), ["c", "b"])
        self.assert_refused(NotYet, {"name": "x", "other": "c"}, part.tell, "x")
        part.give("c", 1)
        self.assert_refused(NotYet, {"name": "x", "other": "b"}, part.tell, "x")

    def test_in_each_of_the_four_words(self):
        part = Part(program("node n in a b c out x y z w p\nx = ( 1 / a )\no = ( c = 1 )\ny = a when p\nz = ( x + 1 )",
                            "p = ( b < 3 )\nw = hold 4 y"), "n")
        for given, wanted in [
            ({"a": 2, "b": 2, "c": 1}, "value 0, value 2, value 1, value 2, value True"),
            ({"a": 2, "b": 9, "c": 1}, "value 0, still None, value 1, value 2, value False"),
            ({"a": None, "b": 9, "c": 1}, "lost None, still None, lost None, value 2, value False"),
            ({"a": 3, "b": None, "c": 1}, "value 0, lost None, value 1, lost None, lost None"),
            ({"a": 0, "b": True, "c": 1}, "fault nought, lost None, lost None, lost None, fault kind"),
        ]:
            part.begin(True)
            for name, value in given.items():
                part.give(name, value)
            self.assertEqual(", ".join(f"{word} {value}" for word, value in map(part.tell, "xyzwp")), wanted)
            part.close()

    def test_unknown_ahead_of_not_yet_and_behind_no_beats(self):
        part = Part(program(TOP), "top")
        strange = [*no_texts(), *wild_texts(), "d", "k", "n", "top", "a", "b", "m", "i.r", "i.s.p", ["i"], "x"]
        for call in (part.lacking, part.tell):
            for thing in ["i", *strange]:
                self.assert_refused(NoBeats, {"found": 0}, call, thing)
        for ticks in (True, False, None):
            part.begin(ticks)
            for call in (part.lacking, part.tell):
                for thing in strange:
                    self.assert_refused(Unknown, {"name": thing}, call, thing)
            if ticks is True:
                self.assert_refused(NotYet, {"name": "i", "other": "d"}, part.tell, "i")
                for name, value in [("d", 1), ("k", True), ("n", True)]:
                    part.give(name, value)
            self.assertEqual(part.close(), [])
        for call in (part.lacking, part.tell):
            for thing in ["i", *strange]:
                self.assert_refused(NoBeats, {"found": 3}, call, thing)

    def test_beats_opened_with_false_and_none(self):
        for ticks, wanted in [(False, ("still", None)), (None, ("lost", None))]:
            part = Part(program(TOP), "top")
            for many in range(3):
                part.begin(ticks)
                for out in "ijlij":
                    self.assertEqual(part.lacking(out), [])
                    self.assert_exact(part.tell(out), wanted)
                self.assertEqual(part.close(), [])
                self.assertEqual(part.beats(), many + 1)
                self.assertEqual(part.row(), {})

    def test_an_out_given_to_the_very_part(self):
        part = Part(program("node n in a c out x y\ny = ( a + 1 )\nx = ( y + c )\nz = before 0 x\nw = ( z + x )"), "n")
        told = []
        for beat in range(3):
            part.begin(True)
            part.give("a", beat)
            self.assertEqual(part.lacking("x"), ["c"])
            part.give("c", part.tell("y")[1])
            told.append(part.tell("x"))
            part.close()
        self.assert_exact(told, [("value", 2), ("value", 4), ("value", 6)])
        self.assertEqual(part.row(), {"a": 2, "c": 3, "y": 3, "x": 6, "z": 4, "w": 10})

    def test_the_same_however_late_and_often_it_is_asked(self):
        for value in (1, 0, None):
            part = Part(program(LOW), "low")
            closed(part, *low_rows((4, False)))
            part.begin(True)
            for _ in range(2):
                self.assert_exact((part.tell("z"), part.tell("v")), (("value", 5), ("value", 2)))
            part.give("c", True)
            part.give("a", value)
            for _ in range(2):
                self.assert_exact((part.tell("z"), part.tell("v"), part.tell("o")),
                                  (("value", 5), ("value", 2), ("value", True)))


class CloseTest(BeatCase):
    def test_no_beats_then_not_yet_of_the_first_input(self):
        part = Part(program(TOP), "top")
        self.assert_refused(NoBeats, {"found": 0}, part.close)
        part.begin(True)
        part.give("k", True)
        self.assert_refused(NotYet, {"name": "top", "other": "d"}, part.close)
        part.give("d", 1)
        self.assert_refused(NotYet, {"name": "top", "other": "n"}, part.close)
        self.assertEqual(part.beats(), 0)
        part.give("n", None)
        self.assertEqual(part.close(), [])
        self.assert_refused(NoBeats, {"found": 1}, part.close)
        for ticks in (False, None):
            part.begin(ticks)
            self.assertEqual(part.close(), [])
        self.assert_refused(NoBeats, {"found": 3}, part.close)

    def test_names_that_fault_within_in_the_order_of_texts(self):
        made = program(LOW, "node mid in b e out r f k\ns t u w g = call low b e\nr = ( u + w )\nf = hold 7 s",
                       "k = ( e < 0 )\nnode top in d k n out j\ni j m = call mid d k\nz = ( ! n )",
                       "b c y p h = call low i n\nab = ( n / 0 )\nzz = ( ab + 1 )")
        for row, wanted in [
            ({"d": 0, "k": 3, "n": 5}, "ab nought, c kind, i.s.q nought, i.t kind, z kind"),
            ({"d": 0, "k": True, "n": True}, "ab kind, i.s.q nought, m kind"),
        ]:
            part = Part(made, "top")
            (faults,) = closed(part, row)
            self.assertEqual(", ".join(f"{name} {word}" for name, word in faults), wanted)
            self.assertEqual((part.beats(), part.cells()), (0, Loop(written_out(made, "top")).cells()))
            self.assert_refused(NoBeats, {"found": 0}, part.row)

    def test_behind_a_fault_all_is_as_ahead_of_the_beat(self):
        part = Part(program(TOP), "top")
        closed(part, {"d": 3, "k": True, "n": True}, {"d": 4, "k": False, "n": True})
        cells, row = part.cells(), part.row()
        self.assertEqual(closed(part, {"d": 0, "k": True, "n": True}), [[("i.s.q", "nought")]])
        self.assert_exact(list(part.cells().items()), list(cells.items()))
        self.assert_exact(list(part.row().items()), list(row.items()))
        self.assertEqual(part.beats(), 2)
        for call in (part.close, lambda: part.tell("i"), lambda: part.lacking("i"), lambda: part.give("d", 1)):
            self.assert_refused(NoBeats, {"found": 2}, call)
        made = program("node low in a out x\nx = before 1 a",
                       "node n in a b out x\nx = call low a\ny = call low b\nz = ( 1 / b )")
        part = Part(made, "n")
        self.assertEqual(closed(part, {"a": 5, "b": 6}, {"a": 7, "b": 0}), [[], [("z", "nought")]])
        self.assertEqual(part.cells(), {"x": 5, "y": 6})

    def test_befores_and_holds_whose_name_was_lost_or_still(self):
        part = Part(program(LOW), "low")
        closed(part, *low_rows((4, True), (None, True)))
        self.assertEqual(part.cells(), {"p": 4, "y": 4, "v": 2})
        closed(part, *low_rows((5, False)))
        self.assertEqual(part.cells(), {"p": 5, "y": 4, "v": 2})
        self.assertEqual(part.row(), {"a": 5, "c": False, "o": False, "p": 4, "y": 4, "z": 5, "q": 2, "v": 2})
        closed(part, *low_rows((2, None)))
        self.assertEqual(part.cells(), {"p": 2, "y": 4, "v": 5})
        self.assertEqual(part.row(), {"a": 2, "p": 5, "z": 6, "q": 5, "v": 2})
        for ticks in (False, None):
            part.begin(ticks)
            part.close()
            self.assertEqual(part.cells(), {"p": 2, "y": 4, "v": 5})
        closed(part, *low_rows((1, True)))
        self.assertEqual(part.row()["p"], 2)
        self.assertEqual(part.row()["v"], 5)

    def test_the_same_within_parts(self):
        made = program(LOW, "node n in a c k out z\nb = a when k\ne = c when k\nx o y z v = call low b e")
        part = Part(made, "n")
        for given, cells in [
            ({"a": 4, "c": True, "k": True}, (4, 4, 2)), ({"a": 2, "c": True, "k": False}, (4, 4, 2)),
            ({"a": None, "c": True, "k": True}, (4, 4, 2)), ({"a": 5, "c": None, "k": True}, (5, 4, 2)),
            ({"a": 5, "c": True, "k": None}, (5, 4, 2)), ({"a": 10, "c": False, "k": True}, (10, 4, 1)),
        ]:
            self.assertEqual(closed(part, given), [[]])
            self.assertEqual(tuple(part.cells().values()), cells)
            self.assertEqual(list(part.cells()), ["x.p", "y", "v"])


class RowTest(BeatCase):
    def test_row_and_cells_at_all_times(self):
        part, loop = Part(program(TOP), "top"), Loop(written_out(program(TOP), "top"))
        self.assert_exact(list(part.cells().items()), list(loop.cells().items()))
        self.assert_refused(NoBeats, {"found": 0}, part.row)
        part.begin(True)
        part.give("d", 3)
        self.assert_refused(NoBeats, {"found": 0}, part.row)
        self.assert_exact(list(part.cells().items()), list(loop.cells().items()))
        part.give("k", True)
        part.give("n", True)
        self.assert_refused(NoBeats, {"found": 0}, part.row)
        part.close()
        told = loop.step({"d": 3, "k": True, "n": True})
        for ticks in (True, False, None):
            self.assert_exact(list(part.row().items()), list(told.items()))
            self.assert_exact(list(part.cells().items()), list(loop.cells().items()))
            part.begin(ticks)
            self.assert_exact(list(part.row().items()), list(told.items()))
            self.assert_exact(list(part.cells().items()), list(loop.cells().items()))
            if ticks is True:
                for name, value in [("d", 4), ("k", False), ("n", True)]:
                    part.give(name, value)
                    self.assert_exact(list(part.row().items()), list(told.items()))
                part.tell("l")
                self.assert_exact(list(part.cells().items()), list(loop.cells().items()))
                told = loop.step({"d": 4, "k": False, "n": True})
            else:
                told = {}
            part.close()
        self.assertEqual(part.row(), {})

    def test_told_dicts_are_new(self):
        part = Part(program(TOP), "top")
        closed(part, {"d": 3, "k": True, "n": True})
        row, cells = part.row(), part.cells()
        part.row().clear()
        part.cells().clear()
        self.assertEqual((part.row(), part.cells()), (row, cells))
        part.begin(True)
        self.assertEqual((part.row(), part.cells()), (row, cells))


class ManyTest(BeatCase):
    def test_by_any_order_of_deeds(self):
        chance = random.Random(101)
        seen = {"value": 0, "still": 0, "lost": 0, "fault": 0, "early": 0, "over": 0}
        for _ in range(250):
            made, truths = sound_program(chance, chance.randint(1, 5), 12)
            name = made.names()[-1]
            node = written_out(made, name)
            rows = [self.some_row(chance, row) for row in some_rows(chance, node, truths[name], chance.randint(1, 9))]
            played, hangs = Played(node, rows), {out: each for out, _, _, each in Fitted(made).summaries[name]}
            part = Part(made, name)
            for row, states in zip(rows, played.states):
                kept = list(part.cells().items())
                part.begin(True if isinstance(row, dict) else row)
                self.told_in_any_order(chance, part, row, states, hangs, seen)
                faults = part.close()
                self.assert_exact(faults, sorted((each, word) for each,
                                                 (kind, word) in states.items() if kind == "fault"))
                if faults:
                    self.assert_exact(list(part.cells().items()), kept)
            self.assertEqual(part.beats(), len(played.told))
            seen["over"] += played.faults is not None
            if played.told:
                self.assert_exact(list(part.row().items()), list(played.told[-1].items()))
            for each, value in part.cells().items():
                _, _, first, other = node.teller(each).told()
                had = [told[other] for told in played.told if other in told]
                self.assert_exact(value, had[-1] if had else first)
        self.assertGreater(min(seen.values()), 25, seen)

    def some_row(self, chance, row):
        if chance.random() < 0.15:
            return chance.choice([False, None])
        return {name: None if chance.random() < 0.1 else value for name, value in row.items()}

    def told_in_any_order(self, chance, part, row, states, hangs, seen):
        inputs = chance.sample(list(row), len(row)) if isinstance(row, dict) else []
        while True:
            for out in chance.choices(list(hangs), k=chance.randint(0, 3)):
                wanted = [each for each in hangs[out] if each in inputs]
                self.assert_exact(part.lacking(out), wanted)
                if wanted:
                    self.assert_refused(NotYet, {"name": out, "other": wanted[0]}, part.tell, out)
                else:
                    self.assert_exact(part.tell(out), states[out])
                    seen[states[out][0]] += 1
                    seen["early"] += len(inputs) > 0
            if not inputs:
                break
            name = inputs.pop()
            part.give(name, row[name])

    def test_two_parts_have_nothing_in_common(self):
        made = program(TOP)
        one, other = Part(made, "top"), Part(made, "top")
        closed(one, {"d": 3, "k": True, "n": True})
        self.assertEqual(other.beats(), 0)
        self.assertEqual(other.cells(), Loop(written_out(made, "top")).cells())
        closed(one, {"d": 0, "k": True, "n": True})
        self.assertEqual(closed(other, {"d": 3, "k": True, "n": True}), [[]])
        self.assertEqual(one.row(), other.row())


if __name__ == "__main__":
    unittest.main()
