import unittest

from beatrows.errors import TooMany, Unknown
from beatrows.nodes import Node, same_node
from beatrows.nodetext import read_node, show_node
from beatrows.programs import Program, read_program, show_program
from beatrows.writing import how_many, name_at, where_from, written_out

from cases import BeatCase, no_texts, wild_texts

SEVEN = """node kinds in a c out x y
k = ( a < 5 )
p = before -3 q
q = ( ( ! k ) ? a : p )
w = q when k
x = hold true w
y = 7 like w
same a q"""
LOW = "node low in a out x\nb = before 0 a\nx = ( a + b )"
MID = "node mid in a c out x y\np q = call kinds a c\nx = call low p\ny = call low x"
TOP = "node top in a b out s\nr t = call mid a b\ns = call low r\nu v = call mid u a\nsame r t\nz = ( r + s )"
TEXT = "\n".join([SEVEN, LOW, MID, TOP])

MID_OUT = """node mid in a c out x y
same a c
p.k = ( a < 5 )
p.p = before -3 p.q
p.q = ( ( ! p.k ) ? a : p.p )
p.w = p.q when p.k
p = hold true p.w
q = 7 like p.w
same a p.q
x.b = before 0 p
x = ( p + x.b )
y.b = before 0 x
y = ( x + y.b )"""

TOP_OUT = """node top in a b out s
same a b
same a b
r.p.k = ( a < 5 )
r.p.p = before -3 r.p.q
r.p.q = ( ( ! r.p.k ) ? a : r.p.p )
r.p.w = r.p.q when r.p.k
r.p = hold true r.p.w
r.q = 7 like r.p.w
same a r.p.q
r.x.b = before 0 r.p
r = ( r.p + r.x.b )
r.y.b = before 0 r
t = ( r + r.y.b )
s.b = before 0 r
s = ( r + s.b )
same u a
same u a
u.p.k = ( u < 5 )
u.p.p = before -3 u.p.q
u.p.q = ( ( ! u.p.k ) ? u : u.p.p )
u.p.w = u.p.q when u.p.k
u.p = hold true u.p.w
u.q = 7 like u.p.w
same u u.p.q
u.x.b = before 0 u.p
u = ( u.p + u.x.b )
u.y.b = before 0 u
v = ( u + u.y.b )
same r t
z = ( r + s )"""


def program():
    return read_program(TEXT)


def chain(links, calls, inputs=1):
    """Nodes, each of which calls the one ahead of it so often; the first one calls none."""
    rows = ["node a in " + " ".join("abcdef"[:inputs]) + " out x", "x = a"]
    for at in range(1, links):
        rows.append(f"node {'abcdefghij'[at]} in " + " ".join("abcdef"[:inputs]) + f" out {first(0)}")
        args = " ".join(["a"] * inputs)
        rows.extend([f"{first(each)} = call {'abcdefghij'[at - 1]} {args}" for each in range(calls)])
    return read_program("\n".join(rows))


def first(at):
    return "x" + "abcdefghijklmnopqrstuvwxyz"[at // 26] + "abcdefghijklmnopqrstuvwxyz"[at % 26]


def wide(many):
    """A program of one node of so many names."""
    rows = [f"x{name_of(at)} = a" for at in range(many - 1)]
    return Program([read_node("\n".join(["node wide in a out xaaa", *rows]))])


def name_of(at):
    letters = "abcdefghijklmnopqrstuvwxyz"
    return letters[at // 676] + letters[at // 26 % 26] + letters[at % 26]


class WrittenTest(BeatCase):
    def wrote(self, text, name, wanted):
        told = written_out(read_program(text), name)
        self.assertIs(type(told), Node)
        self.assertEqual(show_node(told), wanted)
        self.assertFalse(told.has_calls())

    def test_a_node_without_calls(self):
        for name, wanted in [("kinds", SEVEN), ("low", LOW)]:
            self.wrote(TEXT, name, wanted)
            self.assertTrue(same_node(written_out(program(), name), program().named(name)))

    def test_rows_of_all_kinds_in_the_called_node(self):
        self.wrote(TEXT, "mid", MID_OUT)

    def test_calls_of_calls(self):
        self.wrote(TEXT, "top", TOP_OUT)

    def test_the_program_stays(self):
        kept = program()
        written_out(kept, "top")
        self.assertEqual(show_program(kept), TEXT)
        self.assertEqual(show_node(written_out(kept, "top")), TOP_OUT)

    def test_truths_stay_truths(self):
        rows = [("before", "x", True, "a"), ("hold", "y", 1, "w"), ("like", "w", False, "a"), ("like", "z", 0, "a")]
        nodes = [Node("m", ["a"], ["x"], rows), Node("n", ["a"], ["p"], [("call", ("p",), "m", ("a",))])]
        wanted = (
            ("before", "p", True, "a"), ("hold", "p.y", 1, "p.w"), ("like", "p.w", False, "a"), ("like", "p.z", 0, "a"),
        )
        self.assert_exact(written_out(Program(nodes), "n").told(), ("n", ("a",), ("p",), wanted))

    def test_same_rows_have_each_arg_once_in_the_order_of_first_places(self):
        text = "node m in a b c out x\nx = ( a + ( b + c ) )\nnode n in a b out p q r s\n"
        rows = "p = call m b a b\nq = call m a a a\nr = call m p b a\ns = call m b b a"
        self.wrote(text + rows, "n", """node n in a b out p q r s
same b a
p = ( b + ( a + b ) )
q = ( a + ( a + a ) )
same p b a
r = ( p + ( b + a ) )
same b a
s = ( b + ( b + a ) )""")

    def test_a_same_row_within_may_come_to_have_alike_names(self):
        text = "node m in a b out x\nsame a b x a\nx = ( a + b )\nnode n in a out p q\np = call m a a\nq = call m q q"
        self.wrote(text, "n", """node n in a out p q
same a a p a
p = ( a + a )
same q q q q
q = ( q + q )""")

    def test_own_outs_as_args(self):
        text = "node m in a b out x y\ny = before 0 a\nx = ( b + y )\nnode n in a out p\np q = call m p a"
        self.wrote(text, "n", "node n in a out p\nsame p a\nq = before 0 p\np = ( a + q )")

    def test_names_alike_in_caller_and_called_node(self):
        text = "node m in a x out y\np = a\ny = ( p + x )\nnode n in x y out p\na = call m y x\np = ( a + y )"
        self.wrote(text, "n", "node n in x y out p\nsame y x\na.p = y\na = ( a.p + x )\np = ( a + y )")

    def test_names_through_an_out_of_the_called_node(self):
        text = (
            "node l in a out x\nk = a\nx = k\nnode m in a out y\ny = call l a\n"
            "node n in a out z\nw = call m a\nz = call m w"
        )
        self.wrote(text, "n", "node n in a out z\nw.y.k = a\nw = w.y.k\nz.y.k = w\nz = z.y.k")

    def test_names_with_many_points(self):
        out = written_out(chain(8, 2), "h")
        self.assertEqual(len(out.names()), 129)
        self.assertEqual(len([name for name in out.names() if name.count(".") == 6]), 64)
        self.assertIn("xab.xaa.xab.xaa.xaa.xab.xab", out.names())
        texts = ["node a in a out x\nk = a\nx = k"]
        for at in range(1, 8):
            texts.append(f"node {'abcdefgh'[at]} in a out abcdefgh\nabcdefgh = call {'abcdefgh'[at - 1]} a")
        out = written_out(read_program("\n".join(texts)), "h")
        self.assertEqual(out.names(), ["a", ".".join(["abcdefgh"] * 7) + ".k", "abcdefgh"])

    def test_what_is_the_name_of_no_node(self):
        for thing in [*no_texts(), *wild_texts(), "a", "r", "top.r", ["top"]]:
            for asked in (written_out, how_many):
                self.assert_refused(Unknown, {"name": thing}, asked, program(), thing)


class HowManyTest(BeatCase):
    def test_as_many_as_the_node_written_out_has(self):
        for name in ("kinds", "low", "mid", "top"):
            many = how_many(program(), name)
            self.assertIs(type(many), int)
            self.assertEqual(many, len(written_out(program(), name).names()))
        self.assertEqual([how_many(program(), name) for name in ("kinds", "low", "mid", "top")], [8, 3, 12, 25])

    def test_some_millions(self):
        for links, calls in [(2, 24), (5, 24), (8, 9), (8, 24)]:
            self.assertEqual(how_many(chain(links, calls), "abcdefgh"[links - 1]), calls ** (links - 1) + 1)
            self.assertEqual(how_many(chain(links, calls, 6), "abcdefgh"[links - 1]), calls ** (links - 1) + 6)

    def test_just_200_names_and_201(self):
        self.assertEqual(len(written_out(wide(200), "wide").names()), 200)
        self.assert_refused(TooMany, {"many": 201}, written_out, wide(201), "wide")
        low = "node low in a out x\n" + "\n".join([f"x{name_of(at)} = a" for at in range(18)] + ["x = a"])
        for rest, many in [([], 191), (["p = a"], 192), ([f"p{name_of(at)} = a" for at in range(9)], 200)]:
            calls = [f"y{name_of(at)} = call low a" for at in range(10)]
            made = read_program("\n".join([low, "node n in a out yaaa", *calls, *rest]))
            self.assertEqual(how_many(made, "n"), many)
            self.assertEqual(len(written_out(made, "n").names()), many)

    def test_too_many(self):
        for links, calls in [(3, 15), (8, 24), (2, 200)]:
            made = chain(links, calls)
            name = "abcdefgh"[links - 1]
            for asked, given in [(written_out, ()), (where_from, ("a",)), (name_at, ([], "a"))]:
                self.assert_refused(TooMany, {"many": calls ** (links - 1) + 1}, asked, made, name, *given)

    def test_called_nodes_may_have_more(self):
        rows = [f"x{name_of(at)} = a" for at in range(197)]
        caller = ["node n in a out y", "y = call m a a a a a a"]
        made = read_program("\n".join(["node m in a b c d e f out xaaa", *rows, *caller]))
        self.assertEqual((how_many(made, "m"), how_many(made, "n")), (203, 198))
        self.assert_refused(TooMany, {"many": 203}, written_out, made, "m")
        self.assertEqual(len(written_out(made, "n").names()), 198)

    def test_unknown_ahead_of_too_many(self):
        made = chain(8, 24)
        for thing in (["h"], "i", "x", None):
            for asked, given in [(written_out, ()), (where_from, ([],)), (name_at, (None, []))]:
                self.assert_refused(Unknown, {"name": thing}, asked, made, thing, *given)

    def test_too_many_ahead_of_what_is_asked(self):
        made = chain(8, 24)
        many = how_many(made, "h")
        self.assert_refused(TooMany, {"many": many}, where_from, made, "h", ["none"])
        self.assert_refused(TooMany, {"many": many}, name_at, made, "h", None, ["none"])


class WhereFromTest(BeatCase):
    def test_names_of_several_levels(self):
        for name, inner, wanted in [
            ("kinds", "a", ([], "a")), ("kinds", "w", ([], "w")),
            ("mid", "a", ([], "a")), ("mid", "p", ([], "p")), ("mid", "p.k", ([("p", "kinds")], "k")),
            ("mid", "y.b", ([("y", "low")], "b")),
            ("top", "u", ([], "u")), ("top", "t", ([], "t")), ("top", "s.b", ([("s", "low")], "b")),
            ("top", "r.p", ([("r", "mid")], "p")), ("top", "u.q", ([("u", "mid")], "q")),
            ("top", "r.p.p", ([("r", "mid"), ("p", "kinds")], "p")),
            ("top", "u.y.b", ([("u", "mid"), ("y", "low")], "b")),
        ]:
            self.assert_exact(where_from(program(), name, inner), wanted)

    def test_told_lists_are_new(self):
        kept = program()
        told = where_from(kept, "top", "r.p.p")
        told[0].clear()
        self.assertEqual(where_from(kept, "top", "r.p.p"), ([("r", "mid"), ("p", "kinds")], "p"))

    def test_what_is_no_name_of_the_node_written_out(self):
        for thing in [
            *no_texts(), *wild_texts(), "c", "r.a", "r.c", "r.x", "r.y", "r.p.a", "r.p.x", "t.p", "v.p", "p", "k",
            "r.k",
            "s.a", "s.x", "z.b", "r.p.k.a", "top", "top.r", "x", ["r", "p"], ("r", "p"), ("r.p",),
        ]:
            self.assert_refused(Unknown, {"name": thing}, where_from, program(), "top", thing)

    def test_the_node_ahead_of_the_name(self):
        self.assert_refused(Unknown, {"name": ["x"]}, where_from, program(), ["x"], ["y"])
        self.assert_refused(Unknown, {"name": "none"}, where_from, program(), "none", "r")


class NameAtTest(BeatCase):
    def test_there_and_back(self):
        for made in (program(), chain(7, 2), chain(2, 24, 6)):
            for name in made.names():
                names = written_out(made, name).names()
                for inner in names:
                    calls, own = where_from(made, name, inner)
                    self.assertEqual(name_at(made, name, [first for first, _ in calls], own), inner)

    def test_each_name_of_each_node_to_which_calls_lead(self):
        for firsts, wanted in [
            ([], {"a": "a", "b": "b", "r": "r", "t": "t", "s": "s", "u": "u", "v": "v", "z": "z"}),
            (["r"], {"a": "a", "c": "b", "x": "r", "y": "t", "p": "r.p", "q": "r.q"}),
            (["s"], {"a": "r", "b": "s.b", "x": "s"}),
            (["u"], {"a": "u", "c": "a", "x": "u", "y": "v", "p": "u.p", "q": "u.q"}),
            (["r", "p"], {
                "a": "a", "c": "b", "x": "r.p", "y": "r.q", "k": "r.p.k", "p": "r.p.p", "q": "r.p.q", "w": "r.p.w",
            }),
            (["r", "x"], {"a": "r.p", "b": "r.x.b", "x": "r"}), (["r", "y"], {"a": "r", "b": "r.y.b", "x": "t"}),
            (["u", "p"], {
                "a": "u", "c": "a", "x": "u.p", "y": "u.q", "k": "u.p.k", "p": "u.p.p", "q": "u.p.q", "w": "u.p.w",
            }),
            (["u", "x"], {"a": "u.p", "b": "u.x.b", "x": "u"}), (["u", "y"], {"a": "u", "b": "u.y.b", "x": "v"}),
        ]:
            for own, name in wanted.items():
                self.assertEqual(name_at(program(), "top", firsts, own), name)
                self.assertEqual(name_at(program(), "top", tuple(firsts), own), name)

    def test_the_firsts_stay(self):
        firsts = ["r", "p"]
        name_at(program(), "top", firsts, "k")
        self.assertEqual(firsts, ["r", "p"])

    def test_no_list_and_no_tuple(self):
        for thing in [*no_texts(), *wild_texts(), "r", {"r": 1}, {}]:
            if not isinstance(thing, (list, tuple)):
                self.assert_refused(Unknown, {"name": thing}, name_at, program(), "top", thing, "r")

    def test_the_first_thing_that_leads_nowhere(self):
        for thing in [*no_texts(), *wild_texts(), "z", "t", "v", "a", "p", "r.p", "mid", "top", ["r"], ("r",)]:
            for ahead in ([], ["r"], ["u"], ["r", "p"]):
                if thing != "p" or ahead == []:
                    for firsts in ([*ahead, thing], [*ahead, thing, "none"], [*ahead, thing, thing, "r"]):
                        self.assert_refused(Unknown, {"name": thing}, name_at, program(), "top", firsts, "a")
                        self.assert_refused(Unknown, {"name": thing}, name_at, program(), "top", tuple(firsts), ["a"])

    def test_what_is_no_name_of_the_last_node(self):
        for thing in [*no_texts(), *wild_texts(), "none", "r.p", "p.k", ["a"], ("a",)]:
            for firsts in ([], ["r"], ["r", "p"]):
                self.assert_refused(Unknown, {"name": thing}, name_at, program(), "top", firsts, thing)
        for firsts, own in [([], "c"), ([], "p"), (["r"], "b"), (["r"], "r"), (["r", "p"], "r"), (["s"], "c")]:
            self.assert_refused(Unknown, {"name": own}, name_at, program(), "top", firsts, own)

    def test_told_in_the_order_of_the_arguments(self):
        node, firsts, inner, own = ["top"], "r", ["r"], ["a"]
        self.assertIs(self.refusal(Unknown, name_at, program(), node, firsts, own).name, node)
        self.assertIs(self.refusal(Unknown, name_at, program(), "top", firsts, own).name, firsts)
        self.assertIs(self.refusal(Unknown, name_at, program(), "top", [inner], own).name, inner)
        self.assertIs(self.refusal(Unknown, name_at, program(), "top", ["r"], own).name, own)


if __name__ == "__main__":
    unittest.main()
