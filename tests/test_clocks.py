import random
import unittest

from beatrows.clockpapers import is_clash, is_clock_paper
from beatrows.clocks import clock_beside, clock_paper, clocks_of, names_by_clock, ticks
from beatrows.errors import BeatError, NoClock, NoFit, Unknown
from beatrows.nodes import Node
from beatrows.nodetext import read_node

from cases import BeatCase, no_texts, some_node, wild_texts

LEVELS = """node n in a c out x
k = ( a < 5 )
l = ( c < 5 )
y = a when k
m = ( y < 3 )
z = y when m
w = 7 like z
v = before true u
u = ( ! v )
same z w
t = z when q
q = ( w = 7 )
s = hold 0 t
r = hold 0 s
x = hold 0 r
o = c when l
i = ( t + 1 )"""
LEVELS_CLOCKS = {
    "a": (), "c": (), "k": (), "l": (), "y": ("k",), "m": ("k",), "z": ("k", "m"), "w": ("k", "m"),
    "t": ("k", "m", "q"), "q": ("k", "m"), "s": ("k", "m"), "r": ("k",), "x": (), "o": ("l",), "i": ("k", "m", "q"),
}


def node(*rows, inputs="a b c"):
    """A node of rows written as texts; its out is the first name that a row tells."""
    told = [row.split(" ")[0] for row in rows if not row.startswith("same")]
    return read_node("\n".join([f"node n in {inputs} out {told[0]}", *rows]))


def all_steps(one):
    """Each (name, clock) that follows, by going on until nothing new comes; long clocks are left out."""
    found = {(name, ()) for name in one.inputs()}
    rows = [row.told() for row in one.rows()]
    mentioned = [row.names() for row in one.rows()]
    going = True
    while going:
        going = False
        for row, names in zip(rows, mentioned):
            for name, clock in list(found):
                if row[0] != "same" and name in names:
                    led = {"when": clock + row[3:], "hold": clock[:-1]}.get(row[0], clock)
                    if not (row[0] == "hold" and clock == ()) and len(led) < 12 and (row[1], led) not in found:
                        found.add((row[1], led))
                        going = True
    return found


def wanted_of(one):
    """What clocks_of has to tell: a dict, or the kind of the refusal and what stands in it."""
    found = all_steps(one)
    clocks = {name: sorted(clock for each, clock in found if each == name) for name in one.names()}
    rows = [row.told() for row in one.rows()]
    if any(len(told) > 1 for told in clocks.values()):
        return (NoFit, {"two", "hold"} if any(r[0] == "hold" and () in clocks[r[3]] for r in rows) else {"two"})
    if any(row[0] == "hold" and () in clocks[row[3]] for row in rows):
        return (NoFit, {"hold"})
    for name in one.names():
        if not clocks[name]:
            return (NoClock, {name})
    if any(row[0] == "same" and len({clocks[name][0] for name in row[1]}) > 1 for row in rows):
        return (NoFit, {"same"})
    return {name: told[0] for name, told in clocks.items()}


def found_of(one):
    try:
        return clocks_of(one)
    except NoFit as refusal:
        return (NoFit, {refusal.paper[0]})
    except NoClock as refusal:
        return (NoClock, {refusal.name})


class ClocksTest(BeatCase):
    def clocks(self, wanted, *rows):
        told = clocks_of(node(*rows))
        self.assert_exact({name: clock for name, clock in told.items() if name not in ("a", "b", "c")}, wanted)

    def test_inputs(self):
        self.assert_exact(clocks_of(node("x = a")), {"a": (), "b": (), "c": (), "x": ()})

    def test_each_kind_of_row(self):
        self.clocks({"x": ()}, "x = ( a + b )")
        self.clocks({"x": ()}, "x = before 1 a")
        self.clocks({"x": ("c",)}, "x = a when c")
        self.clocks({"x": ("a",)}, "x = a when a")
        self.clocks({"y": ("c",), "x": ()}, "y = a when c", "x = hold 1 y")
        self.clocks({"x": ()}, "x = true like a")
        self.clocks({"x": ()}, "x = a", "same x a b")

    def test_each_kind_of_row_on_a_clock(self):
        for row in ("x = ( y + 1 )", "x = before 1 y", "x = 1 like y", "x = ( ( 1 + 2 ) < y )", "x = ( y + y )"):
            self.clocks({"y": ("c",), "x": ("c",)}, "y = a when c", row)
            self.clocks({"x": ("c",), "y": ("c",)}, row, "y = a when c", "same y x y")
        self.clocks({"y": ("c",), "x": ("c", "y")}, "y = a when c", "x = y when y")
        self.clocks({"y": ("c",), "z": ("c",), "x": ("c", "z")}, "y = a when c", "z = ( ! y )", "x = y when z")
        self.clocks({"y": ("c",), "x": ("c", "y"), "z": ("c",)}, "y = a when c", "x = y when y", "z = hold 0 x")

    def test_several_levels(self):
        self.assert_refused(NoClock, {"name": "v"}, clocks_of, read_node(LEVELS))
        one = read_node(LEVELS.replace("u = ( ! v )", "u = ( ! z )"))
        wanted = {}
        for name in one.names():
            wanted[name] = LEVELS_CLOCKS.get(name, ("k", "m"))
        self.assert_exact(list(clocks_of(one).items()), list(wanted.items()))

    def test_the_dict_is_new_and_in_the_nodes_order(self):
        one = node("x = y", "y = before 0 z", "z = ( x + a )")
        told = clocks_of(one)
        self.assertEqual(list(told), ["a", "b", "c", "x", "y", "z"])
        told.clear()
        self.assertEqual(len(clocks_of(one)), 6)

    def test_befores_of_names_told_behind_and_feedback(self):
        self.clocks({"x": (), "y": ()}, "x = before 1 y", "y = ( x + a )")
        self.clocks({"x": ("c",), "y": ("c",), "z": ("c",)}, "x = before 1 y", "y = ( x + z )", "z = a when c")
        self.clocks({"x": ("c",), "y": (), "z": ("c",)}, "x = ( z + 1 )", "y = hold 0 x", "z = y when c")
        self.clocks({"x": (), "y": ("c",)}, "x = hold 0 y", "y = x when c")
        self.clocks({"x": ()}, "x = ( x + a )")

    def test_a_clock_whose_last_name_is_on_it_too(self):
        # By the rows alone c and y are on one clock; that y ticks where c is true is no question here.
        self.clocks({"y": ("c",), "x": ("c", "y"), "z": ("c", "y")}, "y = b when c", "x = y when y", "z = before 0 x")

    def test_names_with_points(self):
        one = Node("n", ["a.b"], ["x.y"], [("when", "x.y", "a.b", "a.b"), ("hold", "z.z", 0, "x.y")])
        self.assert_exact(clocks_of(one), {"a.b": (), "x.y": ("a.b",), "z.z": ()})

    def test_200_names(self):
        names = ["x" + chr(97 + at // 26) + chr(97 + at % 26) for at in range(199)]
        rows = [f"{name} = {ahead} when {ahead}" for ahead, name in zip(["a", *names], names)]
        one = node(*reversed(rows), inputs="a")
        self.assertEqual(clocks_of(one)[names[-1]], ("a", *names[:-1]))
        self.assertTrue(is_clock_paper(one, clock_paper(one)))


class RefusedTest(BeatCase):
    def no_fit(self, one, word):
        """Refused for a clash of this word, by all that is asked of clocks."""
        for asked, more in [(clocks_of, ()), (clock_paper, ()), (names_by_clock, ()), (clock_beside, ("a", "a"))]:
            paper = self.refusal(NoFit, asked, one, *more).paper
            self.assertTrue(is_clash(one, paper), paper)
            self.assertEqual(paper[0], word)
        return paper

    def no_clock(self, one, name):
        for asked, more in [(clocks_of, ()), (clock_paper, ()), (names_by_clock, ()), (clock_beside, (None, []))]:
            self.assert_refused(NoClock, {"name": name}, asked, one, *more)

    def test_two(self):
        for rows, names in [
            (["x = ( a + y )", "y = a when c"], "x"), (["y = a when c", "x = a when y"], "x"),
            (["x = ( x + y )", "y = a when c", "z = ( y + a )"], "z"),
            (["y = a when b", "z = a when c", "x = ( y + z )"], "x"),
            (["y = a when b", "z = y when c"], "z"), (["x = ( a + y )", "y = x when c"], "xy"),
            (["y = a when b", "z = a when c", "x = y when z"], "x"),
        ]:
            paper = self.no_fit(node(*rows), "two")
            self.assertIn(paper[2], list(names))

    def test_two_by_befores_fed_back(self):
        rows = ["x = before 0 y", "y = ( x + a )", "z = ( y + a )", "w = z when c", "v = ( w + x )"]
        self.assertEqual(self.no_fit(node(*rows), "two")[2:], ("v", "v"))

    def test_hold(self):
        self.assertEqual(self.no_fit(node("x = hold 1 a"), "hold")[2:], ("x", "a"))
        self.assertEqual(self.no_fit(node("y = ( a + 1 )", "x = hold 1 y"), "hold")[2:], ("x", "y"))
        self.assertEqual(self.no_fit(node("y = a when c", "z = hold 1 y", "x = hold 1 z"), "hold")[2:], ("x", "z"))

    def test_same(self):
        self.assertIn(self.no_fit(node("y = a when c", "same a y"), "same")[2:], [("a", "y"), ("y", "a")])
        self.assertIn(
            self.no_fit(node("y = a when c", "z = a when b", "same a c", "same a c a b", "same y y z"), "same")[2:],
            [("y", "z"), ("z", "y")],
        )
        self.no_fit(node("y = a when c", "same a b c a y"), "same")

    def test_no_clock(self):
        self.no_clock(node("x = x"), "x")
        self.no_clock(node("x = a", "z = y", "y = before 1 z"), "z")
        self.no_clock(node("x = a", "y = before 1 z", "z = ( y + y )"), "y")
        self.no_clock(node("x = y when y", "y = hold 0 x"), "x")
        self.no_clock(node("x = 1 like x", "y = a"), "x")
        self.no_clock(node("x = hold 0 x"), "x")
        # A same row gives no clock.
        self.no_clock(node("x = before 1 x", "same a x"), "x")

    def test_two_and_hold_ahead_of_no_clock(self):
        self.no_fit(node("z = z", "y = a when c", "x = ( a + y )"), "two")
        self.no_fit(node("z = z", "x = hold 1 a"), "hold")

    def test_no_clock_ahead_of_same(self):
        self.no_clock(node("y = a when c", "same y a", "z = z"), "z")
        self.no_clock(node("z = z", "y = a when c", "same y a z"), "z")

    def test_two_and_hold_ahead_of_same(self):
        self.no_fit(node("same a y", "y = a when c", "x = ( a + y )"), "two")
        self.no_fit(node("same a y", "y = a when c", "x = hold 1 a"), "hold")
        self.no_fit(node("same a y", "y = a when c", "x = hold 1 a", "z = z"), "hold")

    def test_two_or_hold_where_both_are(self):
        paper = self.refusal(NoFit, clocks_of, node("y = a when c", "x = ( a + y )", "z = hold 1 a")).paper
        self.assertIn(paper[0], ("two", "hold"))

    def test_told_papers_are_new(self):
        one = node("y = a when c", "x = ( a + y )")
        paper = self.refusal(NoFit, clocks_of, one).paper
        kept = (paper[0], list(paper[1]), *paper[2:])
        paper[1].clear()
        self.assertEqual(self.refusal(NoFit, clocks_of, one).paper, kept)


class ManyNodesTest(BeatCase):
    def test_clocks_are_those_that_follow(self):
        chance = random.Random(51)
        seen = {}
        for _ in range(1500):
            one = some_node(chance, chance.randint(1, 8))
            wanted, found = wanted_of(one), found_of(one)
            if isinstance(wanted, dict):
                self.assert_exact(list(found.items()), list(wanted.items()))
                self.assertTrue(is_clock_paper(one, clock_paper(one)))
            else:
                self.assertIs(found[0], wanted[0])
                self.assertLessEqual(found[1], wanted[1])
            word = "clocks"
            if not isinstance(found, dict):
                word = min(found[1]) if found[0] is NoFit else "none"
            seen[word] = seen.get(word, 0) + 1
        for word in ("clocks", "two", "hold", "none", "same"):
            self.assertGreater(seen[word], 50, seen)

    def test_clashes_are_clashes(self):
        chance = random.Random(52)
        for _ in range(500):
            one = some_node(chance, chance.randint(2, 12))
            try:
                clocks_of(one)
            except NoFit as refusal:
                self.assertTrue(is_clash(one, refusal.paper), (one.told(), refusal.paper))
            except NoClock:
                pass

    def test_rows_in_another_order_give_the_same(self):
        chance = random.Random(53)
        for _ in range(500):
            one = some_node(chance, chance.randint(2, 8))
            name, inputs, outs, rows = one.told()
            other = Node(name, inputs, outs, chance.sample(rows, len(rows)))
            first, second = wanted_of(one), found_of(other)
            if isinstance(first, dict):
                self.assertEqual(second, first)
                self.assertEqual(list(second), other.names())
            elif first[0] is NoClock:
                self.assertIs(second[0], NoClock)
            else:
                self.assertIs(second[0], NoFit)
                self.assertLessEqual(second[1], first[1])


class PaperTest(BeatCase):
    def test_the_told_paper_is_one(self):
        one = read_node(LEVELS.replace("u = ( ! v )", "u = ( ! z )"))
        paper = clock_paper(one)
        self.assertIs(type(paper), list)
        self.assertTrue(is_clock_paper(one, paper))
        self.assertEqual({name: clock for name, clock, _ in paper}, clocks_of(one))
        paper.clear()
        self.assertEqual(len(clock_paper(one)), len(one.names()))

    def test_premises_of_inputs(self):
        self.assertEqual(clock_paper(node("x = a", inputs="a")), [("a", (), None), ("x", (), "a")])


class TicksTest(BeatCase):
    def test_each_name_must_be_true(self):
        for clock, values, wanted in [
            ((), {}, True), ((), {"a": False, "b": 1}, True), (("a",), {"a": True}, True),
            (("a",), {"a": False}, False),
            (("a",), {"a": 1}, False), (("a",), {"a": 0}, False), (("a",), {}, False), (("a",), {"b": True}, False),
            (("a", "b"), {"a": True, "b": True}, True), (("a", "b"), {"a": True}, False),
            (("a", "b"), {"b": True}, False), (("a", "b"), {"a": False, "b": True}, False),
            (("a", "b"), {"a": True, "b": False}, False), (("a", "b"), {"a": 1, "b": True}, False),
            (("a", "b"), {"a": True, "b": 7, "c": True}, False),
            (("a.b", "c"), {"c": True, "a.b": True, "d": 0}, True), (("a", "a"), {"a": True}, True),
        ]:
            kept = dict(values)
            self.assertIs(ticks(clock, values), wanted, (clock, values))
            self.assertEqual(values, kept)


class NamesByClockTest(BeatCase):
    def test_clocks_stand_in_the_order_of_their_first_names(self):
        one = node("y = a when c", "x = ( z + a )", "w = ( a < b )", "z = hold 0 y", "v = a when w", "u = ( y + 1 )",
                   "t = before 0 u", "s = v")
        self.assert_exact(names_by_clock(one), [
            ((), ["a", "b", "c", "x", "w", "z"]), (("c",), ["y", "u", "t"]), (("w",), ["v", "s"]),
        ])
        other = node("v = a when w", "y = a when c", "w = ( a < b )", "u = y", "z = v")
        self.assert_exact(names_by_clock(other), [
            ((), ["a", "b", "c", "w"]), (("w",), ["v", "z"]), (("c",), ["y", "u"]),
        ])

    def test_told_lists_are_new(self):
        one = node("y = a when c")
        told = names_by_clock(one)
        told[0][1].clear()
        told.clear()
        self.assertEqual(names_by_clock(one), [((), ["a", "b", "c"]), (("c",), ["y"])])


class BesideTest(BeatCase):
    def test_each_word_both_ways_round(self):
        one = node("y = a when c", "z = y when d", "d = ( ! y )", "w = a when b", "v = w when e", "e = ( ! w )")
        for first, second, wanted in [
            ("a", "a", "alike"), ("a", "b", "alike"), ("y", "d", "alike"), ("y", "y", "alike"), ("z", "z", "alike"),
            ("y", "a", "slower"), ("z", "a", "slower"), ("z", "y", "slower"), ("z", "d", "slower"),
            ("v", "c", "slower"),
            ("y", "w", "apart"), ("z", "w", "apart"), ("z", "v", "apart"), ("y", "v", "apart"), ("d", "e", "apart"),
        ]:
            back = {"alike": "alike", "slower": "faster", "apart": "apart"}[wanted]
            self.assertEqual(clock_beside(one, first, second), wanted, (first, second))
            self.assertEqual(clock_beside(one, second, first), back, (second, first))

    def test_the_first_thing_that_is_no_name_of_the_node(self):
        one = node("x = a")
        for thing in [*no_texts(), *wild_texts(), "y", "n", "a.b", ["a"], ("a",), {"a": 1}]:
            self.assert_refused(Unknown, {"name": thing}, clock_beside, one, thing, "a")
            self.assert_refused(Unknown, {"name": thing}, clock_beside, one, "a", thing)
            self.assert_refused(Unknown, {"name": thing}, clock_beside, one, thing, ["none"])

    def test_clocks_ahead_of_names(self):
        self.assertEqual(self.refusal(NoFit, clock_beside, node("x = hold 1 a"), [], "none").paper[0], "hold")
        self.assert_refused(NoClock, {"name": "x"}, clock_beside, node("x = x"), "none", [])


class KeptTest(BeatCase):
    def test_the_node_stays(self):
        one = read_node(LEVELS)
        kept = one.told()
        for asked in (clocks_of, clock_paper, names_by_clock):
            try:
                asked(one)
            except BeatError:
                pass
        self.assert_exact(one.told(), kept)


if __name__ == "__main__":
    unittest.main()
