import random
import unittest

from beatrows.clockpapers import is_clash, is_clock_paper
from beatrows.clocks import clock_paper, clocks_of
from beatrows.errors import NoClock, NoFit
from beatrows.nodetext import read_node

from cases import BeatCase, nested, no_texts, some_node, spoilt, wild_texts

RIGHT = read_node("""node n in a c out x
y = a when c
z = ( y + 1 )
w = before 0 z
x = hold 0 w
same y w
u = ( a + x )
v = 1 like u""")
PAPER = [
    ("a", (), None), ("c", (), None), ("y", ("c",), "a"), ("z", ("c",), "y"), ("w", ("c",), "z"), ("x", (), "w"),
    ("u", (), "a"), ("v", (), "u"),
]
TWO = read_node("node n in a b c out x\ny = a when c\nx = ( y + a )\nz = a when b\nw = ( y + z )\nv = y when z")
HOLD = read_node("node n in a c out x\ny = ( a + 1 )\nx = hold 0 y\nz = a when c\nw = hold 1 z\nv = hold 1 w")
SAME = read_node("node n in a b c out y\ny = a when c\nz = a when b\nsame y c\nsame a b z\nsame z z a")
ANY = [*no_texts(), *wild_texts(), "a", "x", "two", "hold", "same", ("a", (), None), [("a", (), None)]]


def follows(node, found, step):
    """Whether a step follows from the steps found ahead of it, by the words of the document alone."""
    if not isinstance(step, tuple) or len(step) != 3:
        return False
    name, clock, premise = step
    if not isinstance(name, str) or name not in node.names():
        return False
    if node.teller(name) is None:
        return clock == () and isinstance(clock, tuple) and premise is None
    row, names = node.teller(name).told(), node.teller(name).names()
    if premise not in names or not isinstance(clock, tuple):
        return False
    ahead = [known for other, known, _ in found if other == premise]
    if row[0] == "when":
        return clock in [known + (row[3],) for known in ahead]
    if row[0] == "hold":
        return clock in [known[:-1] for known in ahead if known]
    return clock in ahead


def all_follow(node, steps):
    if not isinstance(steps, list):
        return False
    return all(follows(node, steps[:at], step) for at, step in enumerate(steps))


def is_right_paper(node, thing):
    if not all_follow(node, thing) or sorted(step[0] for step in thing) != sorted(node.names()):
        return False
    clocks = {step[0]: step[1] for step in thing}
    for row in [row.told() for row in node.rows()]:
        if row[0] == "same" and len({clocks[name] for name in row[1]}) > 1:
            return False
        if row[0] == "hold" and (clocks[row[3]] == () or clocks[row[1]] != clocks[row[3]][:-1]):
            return False
        if row[0] == "when" and not clocks[row[1]] == clocks[row[2]] + row[3:] == clocks[row[3]] + row[3:]:
            return False
        if row[0] in ("plain", "before", "like"):
            if any(clocks[name] != clocks[row[1]] for name in node.teller(row[1]).names()):
                return False
    return True


def is_right_clash(node, thing):
    if not isinstance(thing, tuple) or len(thing) != 4 or not all_follow(node, thing[1]):
        return False
    word, steps, one, other = thing
    ones = [step[1] for step in steps if step[0] == one]
    others = [step[1] for step in steps if step[0] == other]
    unlike = any(first != second for first in ones for second in others)
    rows = [row.told() for row in node.rows()]
    if word == "two":
        return one == other and unlike
    if word == "hold":
        return () in others and any(row[0] == "hold" and row[1] == one and row[3] == other for row in rows)
    if word == "same":
        return unlike and one != other and any(row[0] == "same" and one in row[1] and other in row[1] for row in rows)
    return False


class PaperTest(BeatCase):
    def right(self, paper):
        self.assertIs(is_clock_paper(RIGHT, paper), True)

    def wrong(self, paper, node=RIGHT):
        self.assertIs(is_clock_paper(node, paper), False)

    def test_let_by(self):
        self.right(PAPER)
        self.right(clock_paper(RIGHT))

    def test_another_right_order(self):
        self.right([PAPER[at] for at in (1, 0, 2, 3, 4, 5, 6, 7)])
        self.right([PAPER[at] for at in (0, 6, 7, 1, 2, 3, 4, 5)])

    def test_other_right_premises(self):
        self.right([*PAPER[:2], ("y", ("c",), "c"), *PAPER[3:]])
        self.right([*PAPER[:6], ("u", (), "x"), PAPER[7]])

    def test_a_step_left_out_or_twice(self):
        for at in range(len(PAPER)):
            self.wrong(PAPER[:at] + PAPER[at + 1:])
            self.wrong(PAPER[:at] + [PAPER[at]] + PAPER[at:])
            self.wrong(PAPER + [PAPER[at]])
            self.wrong(PAPER[:at] + PAPER[at + 1:] + [PAPER[0]])

    def test_a_step_ahead_of_its_premise(self):
        for at, ahead in [(2, 0), (3, 2), (4, 3), (5, 4), (6, 0), (7, 6)]:
            paper = list(PAPER)
            paper.insert(ahead, paper.pop(at))
            self.wrong(paper)
        self.wrong(list(reversed(PAPER)))

    def test_other_clocks_names_and_premises(self):
        for at, (name, clock, premise) in enumerate(PAPER):
            spoils = [
                (name, other, premise) for other in [(), ("c",), ("a",), ("c", "c"), None, [], ["c"], "c", 0, False]
                if other != clock
            ]
            spoils += [(other, clock, premise) for other in [*ANY, "a", "c", "y", "z", "none"] if other != name]
            spoils += [
                (name, clock, other) for other in [*ANY, None, "a", "c", "y", "v", "none"]
                if other != premise and (name, other) not in (("y", "c"), ("u", "x"))
            ]
            spoils += [[name, clock, premise], (name, clock), (name, clock, premise, premise), (), name, None]
            for spoil in spoils:
                self.wrong([*PAPER[:at], spoil, *PAPER[at + 1:]])

    def test_things_of_other_kinds(self):
        self.wrong(tuple(PAPER))
        self.wrong({step: True for step in PAPER})
        for thing in [*ANY, RIGHT, PAPER[0], [PAPER], (PAPER,)]:
            self.wrong(thing)

    def test_steps_that_follow_but_rows_that_do_not_fit(self):
        for rows, paper in [
            (["y = a when c", "x = ( y + a )"], [("y", ("c",), "a"), ("x", (), "a")]),
            (["y = a when c", "x = ( y + a )"], [("y", ("c",), "a"), ("x", ("c",), "y")]),
            (["y = a when c", "x = a when y"], [("y", ("c",), "a"), ("x", ("y",), "a")]),
            (["y = a when c", "x = y when a"], [("y", ("c",), "a"), ("x", ("c", "a"), "y")]),
            (["y = a when c", "same c y"], [("y", ("c",), "a")]),
            (["y = a when c", "same y y a"], [("y", ("c",), "a")]),
        ]:
            node = read_node("\n".join(["node n in a c out y", *rows]))
            self.wrong([("a", (), None), ("c", (), None), *paper], node)

    def test_a_hold_of_a_name_on_the_clock_without_names(self):
        node = read_node("node n in a out x\nx = hold 0 a")
        for clock in [(), None, ("a",)]:
            self.wrong([("a", (), None), ("x", clock, "a")], node)

    def test_nodes_without_clocks_have_none(self):
        self.wrong([("a", (), None)], read_node("node n in a out x\nx = x"))
        self.wrong([("a", (), None), ("x", (), "x")], read_node("node n in a out x\nx = x"))
        self.wrong([("a", (), None), ("x", (), None)], read_node("node n in a out x\nx = x"))

    def test_spoilt_papers(self):
        chance = random.Random(54)
        seen = [0, 0]
        while min(seen) < 150:
            node = some_node(chance, chance.randint(1, 6))
            try:
                paper = clock_paper(node)
            except (NoFit, NoClock):
                continue
            self.assertIs(is_clock_paper(node, paper), True)
            for _ in range(10):
                other = spoilt(chance, paper, node)
                wanted = is_right_paper(node, other)
                self.assertIs(is_clock_paper(node, other), wanted, (node.told(), other))
                seen[wanted] += 1

    def test_papers_of_other_nodes(self):
        chance = random.Random(55)
        for _ in range(300):
            node, other = some_node(chance, 2), some_node(chance, 2)
            try:
                paper = clock_paper(node)
            except (NoFit, NoClock):
                continue
            wanted = is_right_paper(other, paper)
            self.assertIs(is_clock_paper(other, paper), wanted)
            if wanted:
                self.assertEqual(clocks_of(other), {name: clock for name, clock, _ in paper})


class ClashTest(BeatCase):
    def right(self, node, *clash):
        self.assertIs(is_clash(node, clash), True, clash)

    def wrong(self, node, *clash):
        self.assertIs(is_clash(node, clash), False)

    def test_two_let_by(self):
        a, c, y = ("a", (), None), ("c", (), None), ("y", ("c",), "a")
        x, other = ("x", ("c",), "y"), ("x", (), "a")
        self.right(TWO, "two", [a, y, x, other], "x", "x")
        self.right(TWO, "two", [a, other, y, x], "x", "x")
        self.right(TWO, "two", [a, c, ("y", ("c",), "c"), x, other, x], "x", "x")
        b, z = ("b", (), None), ("z", ("b",), "b")
        self.right(TWO, "two", [a, b, y, z, ("w", ("c",), "y"), ("w", ("b",), "z")], "w", "w")
        self.right(TWO, "two", [a, b, y, z, ("v", ("c", "z"), "y"), ("v", ("b", "z"), "z")], "v", "v")

    def test_a_name_on_two_clocks_gives_two_to_others(self):
        node = read_node("node n in a c out x\ny = a when c\nx = ( y + a )\nw = ( x + 1 )")
        steps = [("a", (), None), ("y", ("c",), "a"), ("x", ("c",), "y"), ("x", (), "a")]
        steps += [("w", ("c",), "x"), ("w", (), "x")]
        self.right(node, "two", steps, "w", "w")
        self.right(node, "two", steps, "x", "x")
        self.wrong(node, "two", steps, "y", "y")

    def test_two_not_let_by(self):
        a, y, x, other = ("a", (), None), ("y", ("c",), "a"), ("x", ("c",), "y"), ("x", (), "a")
        for steps in [
            [a, y, x], [a, y, x, x], [a, y, other], [y, x, other, a], [a, x, y, other], [y, x, other], [a, x, other],
            [a, y, ("x", ("a",), "y"), other], [a, y, ("x", ("c",), "a"), other], [a, y, ("x", ("c",), None), other],
            [a, y, x, ("x", (), "y")], [a, y, x, ("x", (), None)], [a, y, ["x", ("c",), "y"], other],
            [a, y, x, list(other)],
            [a, y, ("x", ["c"], "y"), other], (a, y, x, other), [a, y, x, other, ("none", (), None)],
            [a, y, x, other, 7], [a, y, x, other, ()], [["a", (), None], y, x, other], [a, y, x[:2], other], [], None,
        ]:
            self.wrong(TWO, "two", steps, "x", "x")
        steps = [a, y, x, other]
        for one, two in [("x", "y"), ("y", "x"), ("a", "a"), ("y", "y"), ("w", "w"), ("x", None), (None, None)]:
            self.wrong(TWO, "two", steps, one, two)
        for word in ("hold", "same", "Two", "", None, 2, ["two"], ("two",), "one"):
            self.wrong(TWO, word, steps, "x", "x")

    def test_hold(self):
        a, y = ("a", (), None), ("y", (), "a")
        z, w = ("z", ("c",), "a"), ("w", (), "z")
        self.right(HOLD, "hold", [a, y], "x", "y")
        self.right(HOLD, "hold", [a, z, w], "v", "w")
        self.right(HOLD, "hold", [a, z, y, w, y], "x", "y")
        for steps, one, other in [
            ([a], "x", "y"), ([], "x", "y"), ([y], "x", "y"), ([y, a], "x", "y"), ([a, y], "y", "x"),
            ([a, y], "x", "x"),
            ([a, y], "y", "y"), ([a, y], "x", "a"), ([a, y], "w", "z"), ([a, z], "w", "z"), ([a, z], "v", "w"),
            ([a, y], "v", "w"), ([a, y, ("x", (), "y")], "x", "y"), ([a, y, ("x", None, "y")], "x", "y"),
            ((a, y), "x", "y"), ([a, list(y)], "x", "y"), ([a, y], "x", None), ([a, y], None, "y"),
            ([a, y], ["x"], "y"),
            ([a, y], "x", ["y"]), ([a, ("y", [], "a")], "x", "y"), ([a, ("y", (), "c")], "x", "y"),
            ([a, y], "none", "y"),
        ]:
            self.wrong(HOLD, "hold", steps, one, other)
        for word in ("two", "same", "holds", 1):
            self.wrong(HOLD, word, [a, y], "x", "y")

    def test_same(self):
        a, b, c = ("a", (), None), ("b", (), None), ("c", (), None)
        y, z = ("y", ("c",), "a"), ("z", ("b",), "a")
        for steps, one, other in [
            ([a, y, c], "y", "c"), ([a, y, c], "c", "y"), ([c, ("y", ("c",), "c")], "c", "y"), ([a, z], "a", "z"),
            ([a, z], "z", "a"), ([a, b, z], "b", "z"), ([a, b, c, y, z], "z", "b"),
        ]:
            self.right(SAME, "same", steps, one, other)
        for steps, one, other in [
            ([a, b, y, z], "a", "b"), ([a, b, y, z], "y", "z"), ([a, y], "a", "y"), ([a, y], "y", "c"),
            ([c, y], "c", "y"),
            ([a, y, c], "y", "y"), ([a, z], "z", "z"), ([a, z], "a", "a"), ([a, z], "a", "none"), ([a, z], "a", None),
            ([a, z], ["z"], "a"), ([a, z], "a", ["z"]), ((a, z), "a", "z"), ([a, list(z)], "a", "z"),
            ([z, a], "a", "z"),
            ([a, ("z", ("c",), "a")], "a", "z"), ([a, ("z", (), "a")], "z", "a"), ([a, b, z], "c", "z"), ([], "a", "z"),
        ]:
            self.wrong(SAME, "same", steps, one, other)
        for word in ("two", "hold", "sames", False):
            self.wrong(SAME, word, [a, z], "a", "z")

    def test_names_of_a_row_of_another_kind_are_not_same(self):
        steps = [("a", (), None), ("y", ("c",), "a"), ("z", ("b",), "a")]
        for one, other in [("y", "a"), ("a", "y"), ("y", "z"), ("z", "y")]:
            self.wrong(TWO, "same", steps, one, other)

    def test_same_of_names_in_unlike_rows(self):
        node = read_node("node n in a b c out y\ny = a when c\nz = a when b\nsame y y\nsame z y")
        steps = [("a", (), None), ("b", (), None), ("y", ("c",), "a"), ("z", ("b",), "a")]
        self.right(node, "same", steps, "z", "y")
        self.wrong(node, "same", steps, "a", "y")
        self.wrong(node, "same", steps, "y", "y")

    def test_same_of_one_name_on_two_clocks(self):
        node = read_node("node n in a c out x\ny = a when c\nx = ( y + a )\nsame x x y")
        steps = [("a", (), None), ("y", ("c",), "a"), ("x", ("c",), "y"), ("x", (), "a")]
        self.wrong(node, "same", steps, "x", "x")
        self.right(node, "two", steps, "x", "x")
        self.right(node, "same", steps, "x", "y")
        self.right(node, "same", steps, "y", "x")

    def test_things_of_other_kinds(self):
        for node in (TWO, HOLD, SAME, RIGHT):
            for thing in [*ANY, node, [], ("two",), ("two", [], "x"), ("two", [], "x", "x"), ("two", [], *"xxx")]:
                self.assertIs(is_clash(node, thing), False)
        steps = [("a", (), None), ("y", (), "a")]
        self.assertIs(is_clash(HOLD, ("hold", steps, "x", "y")), True)
        self.assertIs(is_clash(HOLD, ["hold", steps, "x", "y"]), False)
        self.assertIs(is_clash(HOLD, ("hold", steps, "x", "y", "y")), False)
        self.assertIs(is_clash(HOLD, ("hold", steps, "x")), False)
        for thing in [each for each in ANY if each not in ("hold", "x", ("a", (), None))]:
            self.wrong(HOLD, thing, steps, "x", "y")
            self.wrong(HOLD, "hold", thing, "x", "y")
            self.wrong(HOLD, "hold", steps, thing, "y")
            self.wrong(HOLD, "hold", steps, "x", thing)
            self.wrong(HOLD, "hold", [thing, *steps], "x", "y")
            self.wrong(HOLD, "two", steps, thing, thing)
            self.wrong(SAME, "same", steps[:1], thing, "a")
            self.wrong(SAME, "same", steps[:1], "a", thing)

    def test_deep_things_that_are_no_names(self):
        # Alike, but not the very same: gone through part by part they would take years.
        one, other = [nested(20, "x", lambda thing: (thing, thing, thing, thing)) for _ in range(2)]
        for word in ("two", "hold", "same"):
            self.wrong(SAME, word, [("a", (), None)], one, other)
        self.wrong(SAME, "two", [("a", one, None)], "a", "a")
        self.wrong(SAME, "two", [(one, other, one), (other, one, other)], one, other)

    def test_spoilt_clashes(self):
        chance = random.Random(56)
        seen = [0, 0]
        while min(seen) < 150:
            node = some_node(chance, chance.randint(1, 7))
            try:
                clocks_of(node)
            except NoFit as refusal:
                for _ in range(10):
                    other = spoilt(chance, refusal.paper, node)
                    wanted = is_right_clash(node, other)
                    self.assertIs(is_clash(node, other), wanted, (node.told(), other))
                    seen[wanted] += 1
            except NoClock:
                pass

    def test_what_is_asked_stays(self):
        steps = list(PAPER)
        clash = ("two", steps, "x", "x")
        is_clash(RIGHT, clash)
        is_clock_paper(RIGHT, steps)
        self.assertEqual(steps, PAPER)


if __name__ == "__main__":
    unittest.main()
