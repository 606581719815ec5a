import itertools
import random
import unittest

from beatrows.asking import run_by_asking
from beatrows.errors import Hidden, NoBeats, NoClock, NoFit, NoInput, Ring, Unknown
from beatrows.loops import run_loop
from beatrows.parts import Part
from beatrows.programs import read_program
from beatrows.running import is_run
from beatrows.telling import summary_of
from beatrows.together import are_deeds, deeds_of, run_by_parts
from beatrows.writing import how_many, written_out

from cases import BeatCase, no_texts, some_rows, sound_program, wild_texts

# Outs that hang on none, on one, on some and on all of the inputs.
DEEDS = """node n in c a b out x y z w v u
x = ( a + 1 )
y = before 0 b
z = ( a + b )
w = ( a + ( b + c ) )
v = ( c = true )
u = before 1 a"""
TOLD = [
    ("tell", "y"), ("tell", "u"), ("give", "c"), ("tell", "v"), ("give", "a"), ("tell", "x"), ("give", "b"),
    ("tell", "z"), ("tell", "w"),
]
HANGS = {"x": "a", "y": "", "z": "ab", "w": "abc", "v": "c", "u": ""}
TOP = """node low in a c out x o
o = ( a < 5 )
p = before 0 a
x = hold 1 y
y = a when o
q = ( 10 / ( p + 1 ) )
node top in d e out i
i j = call low d e
k = e when j
l = ( k + 1 )
m n = call low l l
g = before 2 i"""


def program(*texts):
    return read_program("\n".join(texts))


def refused_programs():
    """Programs of which one node is refused, called by another one, and the kinds of these refusals."""
    for kind, rows in [
        (NoFit, "x = hold 0 a"), (NoFit, "y = a when c\nx = ( y + a )"), (NoFit, "y = a when c\nsame y a\nx = a"),
        (NoClock, "x = x"), (Ring, "x = ( y + a )\ny = x"), (Hidden, "k = ( a < 1 )\nx = a when k"),
    ]:
        yield kind, program(f"node n in a c out x\n{rows}", "node over in a c out x\nx = call n a c")


class RunTest(BeatCase):
    def test_equal_to_the_runs_of_the_node_written_out(self):
        chance = random.Random(106)
        seen = {"over": 0, "within": 0, "none": 0, "calls": 0}
        for _ in range(250):
            made, truths = sound_program(chance, chance.randint(1, 6), 14)
            name = made.names()[-1]
            node = written_out(made, name)
            rows = some_rows(chance, node, truths[name], chance.randint(0, 12))
            told = run_by_parts(made, name, rows)
            self.assertIs(type(told), tuple)
            self.assert_exact(told, run_by_asking(node, rows))
            self.assert_exact(told, run_loop(node, rows))
            self.assertIs(is_run(node, rows, told), True)
            self.assertEqual([list(row) for row in told[0]], [list(row) for row in run_loop(node, rows)[0]])
            seen["over"] += told[1] is not None
            seen["within"] += told[1] is not None and any("." in each for each, _ in told[1][1])
            seen["none"] += told[1] is None
            seen["calls"] += len(made.below(name)) > 1
        self.assertGreater(min(seen.values()), 20, seen)

    def test_by_hand(self):
        rows = [{"d": 3, "e": 7}, {"d": 9, "e": 4}, {"d": -1, "e": 2}, {"d": 1, "e": 1}]
        told, faults = run_by_parts(program(TOP), "top", tuple(rows))
        self.assertEqual(told[0], {"d": 3, "e": 7, "j": True, "i.p": 0, "i": 3, "i.y": 3, "i.q": 10, "k": 7, "l": 8,
                                   "n": False, "m.p": 0, "m": 1, "m.q": 10, "g": 2})
        self.assertEqual(told[1], {"d": 9, "e": 4, "j": False, "i.p": 3, "i": 3, "i.q": 2, "g": 3})
        self.assertEqual(told[2]["m.p"], 8)
        self.assertEqual(len(told), 3)
        self.assert_exact(faults, (3, [("i.q", "nought")]))
        self.assert_exact(run_by_parts(program(TOP), "low", [{"a": 1, "c": 0}]),
                          ([{"a": 1, "c": 0, "o": True, "p": 0, "x": 1, "y": 1, "q": 10}], None))

    def test_none_one_and_200_rows(self):
        made = program(TOP)
        self.assert_exact(run_by_parts(made, "top", []), ([], None))
        self.assert_exact(run_by_parts(made, "top", ()), ([], None))
        rows = [{"d": beat, "e": 1} for beat in range(200)]
        for given in (rows[:1], rows, tuple(rows)):
            self.assert_exact(run_by_parts(made, "top", given), run_by_asking(written_out(made, "top"), given))
        self.assertEqual(len(run_by_parts(made, "top", rows)[0]), 200)

    def test_no_beats(self):
        made = program(TOP)
        for thing in [*no_texts(), *wild_texts(), [{}] * 201, [{"d": 1, "e": 1}] * 201, ({},) * 300, {"d": 1},
                      Part(made, "low")]:
            if not isinstance(thing, (list, tuple)) or len(thing) > 200:
                self.assert_refused(NoBeats, {"found": thing}, run_by_parts, made, "top", thing)

    def test_refused_as_a_part_ahead_of_the_rows(self):
        for kind, made in refused_programs():
            for name in ("n", "over"):
                for rows in (None, [], [{}]):
                    self.refusal(kind, run_by_parts, made, name, rows)
        for thing in [*no_texts(), *wild_texts(), "x", ["top"]]:
            self.assert_refused(Unknown, {"name": thing}, run_by_parts, program(TOP), thing, None)

    def test_no_input_of_the_first_row_that_is_given(self):
        made = program(TOP)
        good = [{"d": 3, "e": 7}, {"e": 2, "d": 3, "i": None, 7: []}]
        for row, name in [
            ({}, "d"), ({"d": 1}, "e"), ({"e": 1}, "d"), ({"d": None, "e": 1}, "d"), ({"d": 1, "e": "1"}, "e"),
            ({"d": 10 ** 9 + 1, "e": 1}, "d"), (None, "d"), ([], "d"), ("de", "d"), ([("d", 1), ("e", 2)], "d"),
            (True, "d"),
        ]:
            for many in (0, 1, 2):
                given = [*good[:many], row, None]
                self.assert_refused(NoInput, {"name": name, "beat": many}, run_by_parts, made, "top", given)

    def test_rows_behind_a_fault_are_not_looked_at(self):
        made = program(TOP)
        for bad in (None, {}, "x", [], {"d": 1}):
            told = run_by_parts(made, "top", [{"d": -1, "e": 1}, {"d": 1, "e": 1}, bad, bad])
            self.assertEqual(len(told[0]), 1)
            self.assert_exact(told[1], (1, [("i.q", "nought")]))

    def test_a_node_of_some_400_names_written_out(self):
        args = ["a", *[f"x{letter}" for letter in "abcdefghijklmnopqrst"]]
        rows = [f"{out} = call low {arg}" for arg, out in zip(args, args[1:])]
        calls = [f"{one} {other} = call mid b" for one, other in zip("nopqrstuv", "defghijkl")]
        made = program(
            "node low in a out x\nx = ( a + p )\np = before 1 x",
            "\n".join(["node mid in a out xt k", *rows, "k = ( a = a )"]),
            "\n".join(["node top in a c out b n", "b = a when c", *calls]),
        )
        self.assertEqual(how_many(made, "top"), 3 + 9 * 41)
        rows = [{"a": 0, "c": True}, {"a": 0, "c": False}, {"a": 1, "c": True}]
        (first, second, third), faults = run_by_parts(made, "top", rows)
        self.assertIsNone(faults)
        self.assertEqual([len(first), len(second), len(third)], [372, 2, 372])
        self.assertEqual([first["n.xa"], first["n.xb"], first["v.xt.p"], first["v"]], [1, 2, 1, 20])
        self.assertEqual(third["n.xa.p"], first["n.xa"])
        self.assertEqual(list(third)[:7], ["a", "c", "b", "n.xa", "n.xa.p", "n.xb", "n.xb.p"])
        self.assertEqual(len(Part(made, "top").cells()), 180)

    def test_what_was_handed_in_stays(self):
        made, rows = program(TOP), [{"d": 3, "e": 7}, {"d": 4, "e": 7}]
        told = run_by_parts(made, "top", rows)
        self.assertEqual(rows, [{"d": 3, "e": 7}, {"d": 4, "e": 7}])
        told[0][0].clear()
        told[0].clear()
        self.assertEqual(run_by_parts(made, "top", rows), run_by_asking(written_out(made, "top"), rows))


class DeedsTest(BeatCase):
    def right(self, made, name, thing):
        self.assertIs(are_deeds(made, name, thing), True)

    def wrong(self, thing):
        self.assertIs(are_deeds(program(DEEDS), "n", thing), False)

    def test_told(self):
        self.assert_exact(deeds_of(program(DEEDS), "n"), TOLD)
        self.assert_exact(deeds_of(program(TOP), "top"), [("give", "d"), ("tell", "i"), ("give", "e")])
        self.assert_exact(deeds_of(program(DEEDS.replace("x y z w v u", "w u z y")), "n"), [
            ("tell", "u"), ("tell", "y"), ("give", "c"), ("give", "a"), ("give", "b"), ("tell", "w"), ("tell", "z"),
        ])
        self.assert_new_list(lambda: deeds_of(program(DEEDS), "n"), TOLD)
        made = program(DEEDS)
        deeds_of(made, "n").clear()
        self.assert_exact(deeds_of(made, "n"), TOLD)

    def test_let_by(self):
        made = program(DEEDS)
        self.right(made, "n", TOLD)
        gives, tells = [deed for deed in TOLD if deed[0] == "give"], [deed for deed in TOLD if deed[0] == "tell"]
        for order in itertools.permutations(gives):
            self.right(made, "n", [*order, *tells])
            self.right(made, "n", [tells[0], *order, *reversed(tells[1:])])

    def test_in_just_the_right_orders(self):
        chance = random.Random(107)
        seen = [0, 0]
        for _ in range(1500):
            deeds = list(TOLD)
            for _ in range(chance.randint(1, 4)):
                deeds.insert(chance.randrange(len(deeds)), deeds.pop(chance.randrange(len(deeds))))
            wanted = all(("give", each) in deeds[:at] for at, (word, name) in enumerate(deeds) if word == "tell"
                         for each in HANGS[name])
            self.assertIs(are_deeds(program(DEEDS), "n", deeds), wanted)
            seen[wanted] += 1
        self.assertGreater(min(seen), 200)

    def test_left_out_twice_and_otherwise(self):
        for at, (word, name) in enumerate(TOLD):
            ahead, behind = TOLD[:at], TOLD[at + 1:]
            self.wrong(ahead + behind)
            self.wrong([*ahead, TOLD[at], TOLD[at], *behind])
            self.wrong([*ahead, ("tell" if word == "give" else "give", name), *behind])
            self.wrong([*ahead, [word, name], *behind])
            for other in ["none", "p", "n", None, ["x"], *[name for _, name in TOLD]]:
                if other != name:
                    self.wrong([*ahead, (word, other), *behind])
            for thing in [(word,), (word, name, name), (name, word), word + name, None, (), {word: name},
                          ((word, name),),
                          ("Give", name), (None, name), ([word], name), (True, name)]:
                self.wrong([*ahead, thing, *behind])
        self.wrong([*TOLD, TOLD[0]])
        self.wrong(TOLD[1:] + [TOLD[-1]])

    def test_things_of_other_kinds(self):
        self.wrong(TOLD[0])
        for thing in [*no_texts(), *wild_texts(), tuple(TOLD), {deed: 1 for deed in TOLD}, [TOLD]]:
            self.wrong(thing)
            self.wrong([thing, *TOLD[1:]])
            self.wrong([("tell", thing), *TOLD[1:]])
            self.wrong([(thing, "y"), *TOLD[1:]])

    def test_refused_as_the_summary(self):
        for kind, made in refused_programs():
            for name in ("n", "over"):
                self.refusal(kind, deeds_of, made, name)
                for thing in (None, [], TOLD):
                    self.refusal(kind, are_deeds, made, name, thing)
        for thing in [*no_texts(), *wild_texts(), "x", ["n"]]:
            self.assert_refused(Unknown, {"name": thing}, deeds_of, program(DEEDS), thing)
            self.assert_refused(Unknown, {"name": thing}, are_deeds, program(DEEDS), thing, TOLD)

    def test_a_part_does_them(self):
        chance = random.Random(108)
        for _ in range(80):
            made, truths = sound_program(chance, chance.randint(1, 4), 10)
            name = made.names()[-1]
            deeds = deeds_of(made, name)
            self.right(made, name, deeds)
            self.assertEqual([each for word, each in deeds if word == "give"], made.named(name).inputs())
            part, row = Part(made, name), some_rows(chance, made.named(name), truths[name], 1)[0]
            part.begin(True)
            given = []
            for word, each in deeds:
                if word == "give":
                    part.give(each, row[each])
                    given.append(each)
                else:
                    part.tell(each)
                    hangs = {out: list(names) for out, _, _, names in summary_of(made, name)}[each]
                    self.assertEqual(hangs[-1:], given[-1:] if hangs else [])
            part.close()


if __name__ == "__main__":
    unittest.main()
