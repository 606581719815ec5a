import random
import time
import unittest

from beatrows.errors import Hidden, Unknown
from beatrows.fitting import clocks_by, sound_by
from beatrows.programs import read_program
from beatrows.telling import cells_in, summary_of
from beatrows.writing import written_out

from cases import BeatCase, Fitted, no_texts, sound_program, wild_texts

# Rows of each kind, on clocks of none, one and two names, these being inputs and outs.
LOW = """node low in a c d out x h t v m z w p k b
x = ( a + 1 )
h = hold 0 t
t = d when c
v = m when w
m = hold true l
l = n when w
n = ( t < 3 )
z = before 0 d
w = ( t = 1 )
p = 7 like t
k = before 0 v
same t p
b = before true c"""
LOW_TOLD = (
    ("x", (), ("a",), ("a",)),
    ("h", (), ("c", "d"), ("c", "d")),
    ("t", ("c",), ("c", "d"), ("c", "d")),
    ("v", ("c", "w"), ("c", "d"), ("c", "d")),
    ("m", ("c",), ("c", "d"), ("c", "d")),
    ("z", (), ("d",), ()),
    # On a clock, so it hangs on what this reads.
    ("w", ("c",), ("c", "d"), ("c", "d")),
    ("p", ("c",), ("c", "d"), ("c",)),
    ("k", ("c", "w"), ("c", "d"), ("c", "d")),
    ("b", (), ("c",), ()),
)
SIX = LOW.replace("out x h t v m z w p k b", "out x h t z p w")
TOP = SIX + """
node top in e f g out s r q k o
i = e when f
s r q k o n = call low i j i
j = ( i < 9 )
u v w x y z = call low u f f
l = before 0 s"""


def program(*texts):
    return read_program("\n".join(texts))


def chain(calls, rows=""):
    """Eight nodes, each of which calls the one ahead of it so many times; the first one has a cell."""
    texts = ["node d in a b c l m n out x y z u v w\nx = before 0 a\ny = ( b + c )\nz = l\nu = m\nv = n\nw = a" + rows]
    for at in range(1, 8):
        name, ahead = "defghijk"[at], "defghijk"[at - 1]
        outs = [[f"{out}{'opqrstuvwxyzabcdefgh'[each]}" for out in "xyzuvw"] for each in range(calls)]
        given = [["a", "b", "c", "l", "m", "n"], *outs]
        told = [f"{' '.join(out)} = call {ahead} {' '.join(args)}" for out, args in zip(outs, given)]
        texts.append("\n".join([f"node {name} in a b c l m n out {' '.join(outs[-1])}", *told]))
    return program(*texts)


class SummaryTest(BeatCase):
    def test_rows_of_each_kind(self):
        for outs in (LOW_TOLD[:3], LOW_TOLD[3:9], LOW_TOLD[5:9], LOW_TOLD[9:]):
            names = [out for out, *_ in outs]
            self.assert_exact(summary_of(program(LOW.replace("x h t v m z w p k b", " ".join(names))), "low"), outs)

    def test_the_order_of_outs_and_inputs(self):
        names = [out for out, *_ in LOW_TOLD[4:]]
        for outs in (names, names[::-1], names[3:] + names[:3]):
            for inputs in (["a", "c", "d"], ["d", "c", "a"], ["c", "a", "d"]):
                text = LOW.replace("x h t v m z w p k b", " ".join(outs)).replace("in a c d", "in " + " ".join(inputs))
                wanted = {}
                for out, labels, follows, hangs in LOW_TOLD:
                    wanted[out] = (out, labels, tuple(each for each in inputs if each in follows),
                                   tuple(each for each in inputs if each in hangs))
                self.assert_exact(summary_of(program(text), "low"), tuple(wanted[out] for out in outs))

    def test_through_calls(self):
        made = program(TOP)
        self.assert_exact(summary_of(made, "low"), (
            ("x", (), ("a",), ("a",)), ("h", (), ("c", "d"), ("c", "d")), ("t", ("c",), ("c", "d"), ("c", "d")),
            ("z", (), ("d",), ()), ("p", ("c",), ("c", "d"), ("c",)), ("w", ("c",), ("c", "d"), ("c", "d")),
        ))
        made = program(SIX, "node top in e f g out s r q k o j\ni = e when f",
                       "s r q k o n = call low i j i\nj = ( i < 9 )")
        self.assert_exact(summary_of(made, "top"), (
            ("s", ("f",), ("e", "f"), ("e", "f")), ("r", ("f",), ("e", "f"), ("e", "f")),
            ("q", ("f", "j"), ("e", "f"), ("e", "f")), ("k", ("f",), ("e", "f"), ("f",)),
            ("o", ("f", "j"), ("e", "f"), ("e", "f")), ("j", ("f",), ("e", "f"), ("e", "f")),
        ))

    def test_through_calls_from_one_input_and_from_all(self):
        low = "node two in a b out x y z w\nx = ( a + 1 )\ny = before 0 b\nz = ( a + b )\nw = before 0 z"
        made = program(low, "node n in c d e out x y z w k\nx y z w = call two c d\ns t u v = call two d x\n"
                            "k = ( w + t )\nsame u c")
        self.assert_exact(summary_of(made, "n"), (
            ("x", (), ("c",), ("c",)), ("y", (), ("d",), ()), ("z", (), ("c", "d"), ("c", "d")),
            ("w", (), ("c", "d"), ()), ("k", (), ("c", "d"), ()),
        ))
        made = program(low, "node n in c d e out z w x\nx y z w = call two p q\np = ( d + e )\nq = before 7 c")
        self.assert_exact(summary_of(made, "n"), (
            ("z", (), ("c", "d", "e"), ("d", "e")), ("w", (), ("c", "d", "e"), ()), ("x", (), ("d", "e"), ("d", "e")),
        ))

    def test_an_out_that_hangs_on_its_clock_alone(self):
        made = program("node n in a b c out x\nx = 1 like z\ny = before 0 w\nw = a when b\nz = c when b")
        self.assert_exact(summary_of(made, "n"), (("x", ("b",), ("b", "c"), ("b",)),))
        made = program("node n in a b c out y o\no = ( b | c )\nw = a when o\ny = before 0 w")
        self.assert_exact(summary_of(made, "n")[0], ("y", ("o",), ("a", "b", "c"), ("b", "c")))

    def test_hidden_of_the_first_such_out_and_its_first_such_label(self):
        rows = "k = ( a < 1 )\nx = a when k\nl = ( x < 0 )\ny = x when l\nz = x when o\no = ( x = 0 )\nw = a when c"
        for outs, name, other in [
            ("x", "x", "k"), ("y", "y", "k"), ("w y x", "y", "k"), ("k y", "y", "l"), ("k x y", "y", "l"),
            ("w k z", "z", "o"), ("y x k", "y", "l"), ("k l z x", "z", "o"), ("z l x", "z", "k"), ("w l", "l", "k"),
        ]:
            made = program(f"node n in a c out {outs}\n{rows}")
            self.assert_refused(Hidden, {"name": name, "other": other}, summary_of, made, "n")
            self.assertEqual(sound_by(made, "n")[0], clocks_by(made, "n"))
        for outs in ("w k o l y z", "z k o", "o k z", "w", "k l y", "y l k x"):
            made = program(f"node n in a c out {outs}\n{rows}")
            self.assertEqual([out for out, *_ in summary_of(made, "n")], outs.split(" "))

    def test_hidden_by_a_label_that_a_call_tells(self):
        low = "node low in a c out o x\no = ( c = true )\nx = a when o"
        made = program(low, "node n in p q out x\no x = call low p q")
        self.assert_refused(Hidden, {"name": "x", "other": "o"}, summary_of, made, "n")
        made = program(low, "node n in p q out x\nr = ( p < 1 )\no x = call low p r")
        self.assert_refused(Hidden, {"name": "x", "other": "o"}, summary_of, made, "n")
        made = program("node low in a c out x\nx = a when c", "node n in p q out x\nr = ( p < 1 )\nx = call low p r")
        self.assert_refused(Hidden, {"name": "x", "other": "r"}, summary_of, made, "n")
        made = program("node low in a c out x\nx = a when c", "node n in p q out x r\nr = ( p < 1 )\nx = call low p r")
        self.assert_exact(summary_of(made, "n")[0], ("x", ("r",), ("p",), ("p",)))

    def test_many_programs(self):
        chance = random.Random(95)
        labels = 0
        for _ in range(150):
            made, _ = sound_program(chance, chance.randint(1, 5), 12)
            fitted = Fitted(made)
            for name in made.names():
                told = summary_of(made, name)
                self.assert_exact(told, fitted.summaries[name])
                labels += sum(len(each) > 1 for _, each, *_ in told)
        self.assertGreater(labels, 30)

    def test_no_node(self):
        for thing in [*no_texts(), *wild_texts(), "x", "tops", ["top"], "top.s"]:
            for call in (summary_of, cells_in):
                self.assert_refused(Unknown, {"name": thing}, call, program(TOP), thing)


class CellsTest(BeatCase):
    def test_calls_of_calls_and_the_same_node_several_times(self):
        made = program(TOP, "node up in e f out s\ns r q k o = call top e f e\nx y z w v = call top f e f",
                       "h = before 0 s\na b c d u t = call low e f e")
        self.assertEqual([cells_in(made, name) for name in made.names()], [5, 11, 28])
        self.assertIs(type(cells_in(made, "up")), int)

    def test_as_many_as_rows_written_out(self):
        chance = random.Random(96)
        for _ in range(100):
            made, _ = sound_program(chance, chance.randint(1, 5), 12)
            for name in made.names():
                rows = [row.told()[0] for row in written_out(made, name).rows()]
                self.assertEqual(cells_in(made, name), rows.count("before") + rows.count("hold"))

    def test_none(self):
        self.assertEqual(cells_in(program("node n in a out x\nx = a\ny = a when x\nz = 1 like y\nsame a x"), "n"), 0)

    def test_no_refusal_but_unknown(self):
        for rows in ("x = hold 0 a", "x = before 0 x", "y = a when c\nx = ( a + y )\nz = before 0 z",
                     "y = x\nx = y\nz = before 1 y", "k = ( a < 1 )\nx = a when k\nz = hold 0 x",
                     "y = a when c\nsame y a\nx = before 0 a"):
            made = program(f"node n in a c out x\n{rows}", "node m in a c out x\nx = call n a c\ny = call n x x")
            self.assertEqual([cells_in(made, "n"), cells_in(made, "m")], [1, 2])


class LargeTest(BeatCase):
    def test_some_millions_of_names_in_a_second(self):
        for calls, rows in [(20, ""), (12, "\nk = hold 0 t\nt = a when b"), (20, "\nk = hold 0 t\nt = a when b")]:
            made = chain(calls, rows)
            began = time.perf_counter()
            told = summary_of(made, "k")
            cells = cells_in(made, "k")
            clocks, order = sound_by(made, "k")
            self.assertLess(time.perf_counter() - began, 1)
            self.assertEqual(cells, calls ** 7 * (2 if rows else 1))
            self.assertEqual([out[1] for out in told], [()] * 6)
            self.assertEqual((len(order), len(clocks)), (6 * calls + 6, 6 * calls + 6))


if __name__ == "__main__":
    unittest.main()
