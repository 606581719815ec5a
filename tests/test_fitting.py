import random
import unittest

from beatrows.clocks import clocks_of
from beatrows.errors import BeatError, Hidden, NoClock, NoFit, Ring, Unknown
from beatrows.fitting import clocks_by, is_clash_by, is_order_by, is_ring_by, order_by, reads_by, sound_by
from beatrows.orders import need_sound
from beatrows.programs import read_program
from beatrows.reading import reads_of
from beatrows.telling import cells_in, summary_of

from cases import BeatCase, Fitted, nested, no_texts, sound_program, spoilt, spoilt_program, wild_texts

# Outs on clocks of none, one and two names; the way from k to a leads through its clock alone.
LOW = """node low in a c out x o v y z k
x = a when c
o = ( c = true )
v = ( x < 3 )
y = x when v
z = before 0 a
k = 1 like y"""
TOP = LOW + """
node top in p q r out d
m = p when q
n = ( m < 4 )
d e f g h i = call low m n
s t u v w x = call low p r
l = hold 0 s
b = ( t & q )
c = ( l + p )"""
TOP_CLOCKS = {
    "p": (), "q": (), "r": (), "m": ("q",), "n": ("q",),
    "d": ("q", "n"), "e": ("q",), "f": ("q", "n"), "g": ("q", "n", "f"), "h": ("q",), "i": ("q", "n", "f"),
    "s": ("r",), "t": (), "u": ("r",), "v": ("r", "u"), "w": (), "x": ("r", "u"), "l": (), "b": (), "c": (),
}
TOP_READS = {
    "p": [], "q": [], "r": [], "m": ["p", "q"], "n": ["q", "m"],
    "d": ["m", "n"], "e": ["q", "n"], "f": ["m", "n"], "g": ["m", "n", "f"], "h": ["q"], "i": ["m", "n", "f"],
    "s": ["p", "r"], "t": ["r"], "u": ["p", "r"], "v": ["p", "r", "u"], "w": [], "x": ["p", "r", "u"],
    "l": ["s"], "b": ["q", "t"], "c": ["p", "l"],
}
# Outs that follow from, and hang on, one input each, and both.
APART = """node two in a b out x y z w
x = ( a + 1 )
y = before 0 b
z = ( a + b )
w = before 0 z"""
# Rows that give a refusal, of names that end alike.
BAD = {
    "two": "y = a when c\nx = ( y + a )", "hold": "x = hold 0 a", "none": "x = x",
    "same": "y = a when c\nsame y a\nx = a", "ring": "x = ( y + a )\ny = x", "hidden": "k = ( a < 1 )\nx = a when k",
    "args": "y = a when c\nx k = call pair y a", "sound": "x = ( a + 1 )",
}
# Called by the rows for args.
PAIR = "node pair in a b out x y\nx = a\ny = b"
KINDS = {"two": NoFit, "hold": NoFit, "none": NoClock, "same": NoFit, "args": NoFit, "ring": Ring, "hidden": Hidden}
ORDER = [["two", "hold"], ["none"], ["same", "args"], ["ring"], ["hidden"]]
ASKED = {
    "clocks": (clocks_by,), "reads": (reads_by,), "order": (order_by,), "sound": (sound_by,),
    "is_order": (is_order_by, ["a"]), "is_ring": (is_ring_by, ["a"]), "is_clash": (is_clash_by, ()),
    "summary": (summary_of,),
}
# By which of these each question is refused of a node by itself.
DUE = {
    **{word: 3 for word in ("clocks", "reads", "is_order", "is_ring")}, "order": 4, "sound": 4, "summary": 5,
    "is_clash": 0,
}


def program(*texts):
    texts = ("\n".join(texts),)
    return read_program("\n".join([PAIR, *texts] if "call pair" in texts[0] else texts))


def bad(name, *words):
    """A node that is refused by itself for what these words tell, with an out for each."""
    rows = []
    for ending, word in zip("rstuv", words):
        for row in BAD[word].split("\n"):
            rows.append(" ".join(part + ending if part in ("x", "y", "k") else part for part in row.split(" ")))
    outs = " ".join(f"x{ending}" for ending, _ in zip("rstuv", words))
    return "\n".join([f"node {name} in a c out {outs}", *rows])


def caller(name, called, outs=1):
    """A node that calls another one and is sound where that is."""
    told = " ".join(f"p{ending}" for ending in "rstuv"[:outs])
    return f"node {name} in a c out pr\n{told} = call {called} a c"


def ask(word, made, name):
    call, *given = ASKED[word]
    return call(made, name, *given)


class FittingCase(BeatCase):
    def assert_bad(self, word, refusal, made, name):
        """The refusal is what this word tells of the node of this name."""
        self.assertIs(type(refusal), KINDS[word])
        node = made.named(name)
        if word in ("two", "hold", "same", "args"):
            self.assertEqual(refusal.paper[0], "same" if word == "args" else word)
            self.assertIs(is_clash_by(made, name, refusal.paper), True)
        elif word == "ring":
            self.assertIs(is_ring_by(made, name, refusal.paper), True)
        elif word == "none":
            self.assertIn(refusal.name, [each for each in node.names() if each.startswith("x")])
        else:
            self.assertIn((refusal.name, refusal.other), [(f"x{ending}", f"k{ending}") for ending in "rstuv"])

    def clocks(self, text, **wanted):
        made = program(text)
        name = made.names()[-1]
        told = clocks_by(made, name)
        self.assertEqual(list(told), made.named(name).names())
        self.assertEqual({each: " ".join(told[each]) for each in wanted}, wanted)


class ClocksTest(FittingCase):
    def test_labels_on_args_of_several_clocks(self):
        made = program(TOP)
        self.assert_exact(list(clocks_by(made, "top").items()), list(TOP_CLOCKS.items()))
        self.assert_exact(clocks_by(made, "low"), {
            "a": (), "c": (), "x": ("c",), "o": (), "v": ("c",), "y": ("c", "v"), "z": (), "k": ("c", "v"),
        })

    def test_args_on_a_clock_of_several_names(self):
        head = "\nnode n in p q r out u\nu = p when q\nv = r when q\nk = ( u < 3 )\n"
        head += "s = u when k\nt = ( u = v )\nw = t when k\n"
        self.clocks(LOW + head + "d e f g h i = call low s w\nj = hold 0 g\nl = hold 0 j\nm = hold 1 l", s="q k",
                    w="q k",
                    d="q k w", e="q k", f="q k w", g="q k w f", h="q k", i="q k w f", j="q k w", l="q k", m="q")

    def test_a_node_without_calls_has_the_clocks_of_its_own(self):
        made = program(LOW)
        self.assertEqual(clocks_by(made, "low"), clocks_of(made.named("low")))

    def test_an_arg_several_times(self):
        self.clocks(LOW + "\nnode n in a b out d\nd e f g h i = call low b b", d="b", e="", g="b f", h="", i="b f")

    def test_calls_of_calls(self):
        text = LOW + "\nnode mid in b j out d f g\nd e f g h i = call low b j"
        text += "\nnode n in a c out r\nk = a when c\nl = ( k < 5 )\nr s t = call mid k l\nu = hold 0 t"
        self.clocks(text, k="c", r="c l", s="c l", t="c l s", u="c l")

    def test_an_own_out_as_an_arg(self):
        text = APART + "\nnode n in a c out x\nk = a when c\nx y z w = call two k x\nu = ( w + x )"
        self.clocks(text, x="c", y="c", z="c", w="c", u="c")

    def test_an_own_out_as_the_arg_that_is_a_label(self):
        # The first input follows from nothing but the second one's clock.
        low = "node low in a c out o x\no = ( a < 3 )\nx = a when c"
        self.clocks(low + "\nnode n in a out o\no x = call low a o", o="", x="o")

    def test_an_out_follows_from_those_args_alone_from_which_its_summary_says(self):
        head = APART + "\nnode n in a c out x\n"
        # From z alone no clock follows for z.
        made = program(head + "x y z w = call two a z")
        self.assertEqual(clocks_by(made, "n")["z"], ())
        made = program(head + "x y z w = call two x y")
        for call in (clocks_by, sound_by, summary_of):
            self.assert_refused(NoClock, {"name": "x"}, call, made, "n")
        self.assert_refused(NoClock, {"name": "y"}, clocks_by, program(head + "x y z w = call two a y"), "n")
        made = program(head + "k = a when c\nx y z w = call two a k")
        paper = self.refusal(NoFit, clocks_by, made, "n").paper
        # The clocks of x and y don't meet, so z and w alone can be on two.
        self.assertEqual(paper[0], "two")
        self.assertIn(paper[2], ("z", "w"))
        made = program("\n".join(APART.split("\n")[:3]).replace("x y z w", "x y")
                       + "\nnode n in a c out x\nk = a when c\nx y = call two a k")
        paper = self.refusal(NoFit, clocks_by, made, "n").paper
        self.assertEqual((paper[0], {*paper[2:]}), ("same", {"a", "k"}))

    def test_told_dicts_are_new(self):
        made = program(TOP)
        clocks_by(made, "top").clear()
        self.assertEqual(clocks_by(made, "top"), TOP_CLOCKS)


class RefusedTest(FittingCase):
    def test_each_by_itself_and_each_pair_in_the_told_order(self):
        for level, words in enumerate(ORDER):
            for word in words:
                for later in ["sound", *[each for others in ORDER[level + 1:] for each in others]]:
                    for pair in ([word, later], [later, word]):
                        made = program(bad("n", *pair))
                        for asked, due in DUE.items():
                            if level < due:
                                refusal = self.refusal(KINDS[word], ask, asked, made, "n")
                                self.assert_bad(word, refusal, made, "n")

    def test_what_is_not_asked_for_is_no_refusal(self):
        for word, asked in [
            ("ring", ["clocks", "reads", "is_order", "is_ring", "is_clash"]),
            ("hidden", ["clocks", "reads", "order", "sound", "is_order", "is_ring", "is_clash"]),
            ("two", ["is_clash"]), ("hold", ["is_clash"]), ("none", ["is_clash"]), ("same", ["is_clash"]),
            ("args", ["is_clash"]),
        ]:
            for each in asked:
                ask(each, program(bad("n", word)), "n")

    def test_the_same_by_calls(self):
        low = "node low in a c out x y\nx = ( a + c )\ny = a when c"
        for rows, word, names in [
            ("u v = call low a c\nw = ( v + a )", "two", "w"), ("u v = call low a c\nw = hold 0 u", "hold", "w"),
            ("z = a when c\nu v = call low a z", "two", "u v"),
        ]:
            made = program(low + "\nnode n in a c out u\n" + rows)
            for asked in ("clocks", "reads", "order", "sound", "is_order", "is_ring", "summary"):
                paper = self.refusal(NoFit, ask, asked, made, "n").paper
                self.assertEqual(paper[0], word)
                self.assertIn(paper[2], names.split(" "))
                self.assertIs(is_clash_by(made, "n", paper), True)

    def test_a_node_below_ahead_of_the_node_itself(self):
        for below in KINDS:
            for own in ["sound", *KINDS]:
                texts = bad("low", below), bad("n", own) + "\npr = call low a c"
                made = program(*texts)
                for asked in ASKED:
                    self.assert_bad(below, self.refusal(KINDS[below], ask, asked, made, "n"), made, "low")

    def test_the_first_node_below_in_the_programs_order(self):
        words = list(KINDS)
        for first in words:
            for second in words:
                texts = [bad("m", "sound"), bad("other", "two", "none"), bad("first", first), bad("second", second)]
                rows = ["xr = call second a c", "xs = call first a c", "xt = call m a c"]
                for order in (rows, rows[1:] + rows[:1]):
                    made = program(*texts, "\n".join(["node n in a c out xr", *order]), caller("top", "n"))
                    for asked in ASKED:
                        for name in ("n", "top"):
                            refusal = self.refusal(KINDS[first], ask, asked, made, name)
                            self.assert_bad(first, refusal, made, "first")

    def test_a_node_below_by_what_it_is_refused_by_itself(self):
        # Of the called one alone there is something to tell: the one between rests on it.
        for word in KINDS:
            made = program(bad("low", word), caller("mid", "low"), caller("n", "mid"))
            for asked in ASKED:
                self.assert_bad(word, self.refusal(KINDS[word], ask, asked, made, "n"), made, "low")
        mid = "node mid in a out x\nd e f g h i = call low a x\nx = ( e & a )"
        made = program(LOW, mid, "node n in a out x\nx = call mid a")
        for asked in ASKED:
            paper = self.refusal(Ring, ask, asked, made, "n").paper
            self.assertEqual(sorted(paper), ["e", "x"])

    def test_nodes_that_are_not_below_are_not_looked_at(self):
        made = program(bad("low", "two"), bad("n", "sound"), bad("other", "ring"))
        for asked in ASKED:
            ask(asked, made, "n")

    def test_unknown_of_any_strange_thing(self):
        made = program(TOP, bad("n", "two"))
        for thing in [*no_texts(), *wild_texts(), "a", "x", "tops", "Top", ["top"], ("top",), {"top": 1}, "top.d"]:
            for call, *given in [*ASKED.values(), (is_clash_by, 7), (is_order_by, None), (is_ring_by, {}), (cells_in,)]:
                self.assert_refused(Unknown, {"name": thing}, call, made, thing, *given)


class ClashTest(FittingCase):
    LOW = "node low in a c out x y\nx = ( a < 3 )\ny = a when x"

    def setUp(self):
        self.made = program(
            self.LOW, "node n in a c out u\nz = a when c\nu v = call low z c\nw = ( v + z )",
            "h = hold 0 a\ng = hold 1 u",
        )
        self.steps = {
            "a": ("a", (), None), "c": ("c", (), None), "z": ("z", ("c",), "a"), "u": ("u", ("c",), "z"),
            "v": ("v", ("c", "u"), "z"), "w": ("w", ("c", "u"), "v"), "other": ("w", ("c",), "z"),
        }

    def right(self, word, steps, one, other):
        thing = (word, [self.steps[each] for each in steps.split(" ")], one, other)
        self.assertIs(is_clash_by(self.made, "n", thing), True, thing)
        return thing

    def wrong(self, *clash):
        self.assertIs(is_clash_by(self.made, "n", clash), False, clash)

    def test_let_by(self):
        self.right("two", "a z v w other", "w", "w")
        self.right("two", "a z other u v w", "w", "w")
        self.right("hold", "a", "h", "a")
        self.right("same", "a z c", "z", "c")
        self.right("same", "c a z", "c", "z")

    def test_not_let_by(self):
        a, c, z, u, v, w, other = self.steps.values()
        for steps in [
            [a, z, v, w], [a, z, v, other], [a, v, w, other], [z, v, w, other], [a, z, w, v, other],
            [v, z, a, w, other],
            [a, z, v, v, other], [a, z, ("v", ("c",), "z"), w, other], [a, z, ("v", ("c", "x"), "z"), w, other],
            [a, z, ("v", ("c", "u"), "c"), w, other], [a, z, ("v", ("c", "u"), None), w, other],
            [a, z, u, ("v", ("c", "u"), "u"), w, other], [a, z, list(v), w, other],
            [a, z, ("v", ["c", "u"], "z"), w, other],
            [a, z, ("y", ("c", "u"), "z"), w, other], (a, z, v, w, other), None, [],
        ]:
            self.wrong("two", steps, "w", "w")
        right = [a, z, v, w, other]
        for one, two in [("v", "v"), ("w", "v"), ("z", "z"), ("w", None), ("x", "x"), (["w"], ["w"])]:
            self.wrong("two", right, one, two)
        for word in ("hold", "same", "Two", None, 0):
            self.wrong(word, right, "w", "w")
        for one, two in [("a", "h"), ("g", "u"), ("h", "h"), ("a", "a"), ("u", "a"), ("h", None)]:
            self.wrong("hold", [a, z, u], one, two)
        for one, two in [
            ("z", "z"), ("c", "c"), ("a", "c"), ("a", "z"), ("u", "z"), ("z", "u"), ("z", "low"), ("v", "z"),
            ("z", "v"),
        ]:
            self.wrong("same", [a, z, c, u, v], one, two)
        self.wrong("same", [a, z], "z", "c")
        # From the second arg, too, the out follows that doesn't so by the summary.
        self.wrong("two", [a, c, z, u, ("u", (), "c")], "u", "u")
        self.wrong("two", [a, c, z, v, ("v", ("u",), "c")], "v", "v")

    def test_args_of_unlike_calls(self):
        made = program(self.LOW, "node n in a c out u\nz = a when c\nu v = call low z z\ns t = call low a a\nsame z u")
        steps = [("a", (), None), ("z", ("c",), "a"), ("u", ("c",), "z")]
        for one, other in [("a", "z"), ("z", "a"), ("z", "u"), ("a", "a")]:
            self.assertIs(is_clash_by(made, "n", ("same", steps, one, other)), False)

    def test_things_of_other_kinds(self):
        made = program(TOP, bad("n", "ring"), bad("m", "none"))
        right = self.right("same", "a z c", "z", "c")
        for thing in [*no_texts(), *wild_texts(), list(right), right[:3], (*right, "c"), (right,), {"same": right}]:
            self.assertIs(is_clash_by(self.made, "n", thing), False)
            self.assertIs(is_clash_by(made, "n", thing), False)
            self.assertIs(is_clash_by(made, "m", thing), False)
            self.assertIs(is_clash_by(made, "top", thing), False)
            self.wrong(thing, *right[1:])
            self.wrong("same", thing, "z", "c")
            self.wrong("same", right[1], thing, "c")
            self.wrong("same", right[1], "z", thing)
            self.wrong("same", [*right[1], thing], "z", "c")
        one, other = [nested(20, "x", lambda thing: (thing, thing, thing, thing)) for _ in range(2)]
        self.wrong("two", [("a", one, None)], one, other)

    def test_what_is_asked_stays(self):
        steps = list(self.steps.values())
        is_clash_by(self.made, "n", ("two", steps, "w", "w"))
        self.assertEqual(steps, list(self.steps.values()))


class OrderTest(FittingCase):
    def test_readings_of_all_kinds_of_rows(self):
        made = program(TOP)
        self.assert_exact(list(reads_by(made, "top").items()), list(TOP_READS.items()))
        reads_by(made, "top")["d"].clear()
        reads_by(made, "top").clear()
        self.assertEqual(reads_by(made, "top"), TOP_READS)

    def test_rows_without_calls_read_as_they_do_alone(self):
        made = program("node n in a c out x\ny = a when c\nx = hold 0 z\nz = ( y + ( y * w ) )\nw = before 1 z\n"
                       "v = 7 like z\nsame z v\nu = ( x + ( a + a ) )")
        node = made.named("n")
        self.assertEqual(reads_by(made, "n"), reads_of(node, clocks_of(node)))
        self.assertEqual(reads_by(made, "n")["z"], ["c", "y", "w"])

    def test_args_on_which_an_out_hangs_alone_each_once_in_the_nodes_order(self):
        made = program(APART, "node n in b a out s\nv t s u = call two a b\nx y w r = call two s s\n"
                       "k l m o = call two z b\nz = before 0 a")
        self.assertEqual({name: " ".join(told) for name, told in reads_by(made, "n").items()}, {
            "b": "", "a": "", "v": "a", "t": "", "s": "b a", "u": "", "x": "s", "y": "", "w": "s", "r": "",
            "k": "z", "l": "", "m": "b z", "o": "", "z": "",
        })

    def test_an_order_is_told_and_let_by(self):
        made = program(TOP)
        for told in (order_by(made, "top"), sound_by(made, "top")[1]):
            self.assertIs(type(told), list)
            self.assertEqual(sorted(told), sorted(TOP_READS))
            for at, name in enumerate(told):
                self.assertLessEqual(set(TOP_READS[name]), set(told[:at]))
            self.assertIs(is_order_by(made, "top", told), True)
        self.assert_exact(sound_by(made, "top")[0], TOP_CLOCKS)
        self.assertIs(type(sound_by(made, "top")), tuple)
        sound_by(made, "top")[0].clear()
        sound_by(made, "top")[1].clear()
        self.assertIs(is_order_by(made, "top", sound_by(made, "top")[1]), True)

    def test_orders_not_let_by(self):
        made = program(TOP)
        right = list(TOP_READS)
        self.assertIs(is_order_by(made, "top", right), True)
        for at, name in enumerate(right):
            for other in (right[:at] + right[at + 1:], right[:at] + [name] + right[at:], right + [name],
                          right[:at] + ["none"] + right[at + 1:], right[:at] + [[name]] + right[at + 1:],
                          right[:at] + [None] + right[at + 1:], right[:at] + [right[0]] + right[at + 1:]):
                self.assertIs(is_order_by(made, "top", other), other == right)
        seen = [0, 0]
        for at in range(len(right)):
            for to in range(len(right)):
                other = list(right)
                other[at], other[to] = other[to], other[at]
                wanted = all(set(TOP_READS[name]) <= set(other[:where]) for where, name in enumerate(other))
                self.assertIs(is_order_by(made, "top", other), wanted)
                seen[wanted] += 1
        self.assertGreater(min(seen), 20)
        for thing in [*no_texts(), *wild_texts(), tuple(right), {name: 1 for name in right}, [right], " ".join(right)]:
            self.assertIs(is_order_by(made, "top", thing), False)
            self.assertIs(is_ring_by(made, "top", thing), False)

    def test_a_ring_through_a_call(self):
        made = program(APART, "node n in a c out p\nx y z w = call two a p\np = ( z + q )\nq = ( p + c )")
        for call in (order_by, sound_by, summary_of):
            paper = self.refusal(Ring, call, made, "n").paper
            self.assertIs(is_ring_by(made, "n", paper), True)
        rings = [["p", "z"], ["z", "p"], ["p", "q"], ["q", "p"]]
        for ring in rings:
            self.assertIs(is_ring_by(made, "n", ring), True)
        for thing in [
            ["p"], ["z"], ["p", "z", "q"], ["p", "z", "p"], ["p", "z", "p", "q"], [], ("p", "z"), ["p", "w"],
            ["a", "z"], ["p", ["z"]], ["p", "none"], "p z", ["z", "a"], ["w", "z"], ["y", "p"], {"p": 1, "z": 1},
            ["x", "p"], [None],
        ]:
            self.assertIs(is_ring_by(made, "n", thing), False)
        self.assertIs(is_order_by(made, "n", order_by(program(TOP), "top")), False)

    def test_a_ring_of_one_name_and_of_an_own_out(self):
        made = program(APART, "node n in a c out z\nx y z w = call two a z")
        self.assert_refused(Ring, {"paper": ["z"]}, order_by, made, "n")
        self.assertIs(is_ring_by(made, "n", ["z"]), True)
        self.assertIs(is_ring_by(made, "n", ["w"]), False)

    def test_no_ring_through_what_an_out_does_not_hang_on(self):
        made = program(APART, "node n in a c out z\nx y z w = call two a x\ns t u v = call two a p",
                       "p = ( s + ( t + v ) )\nsame v t s p x a")
        self.assertIs(is_order_by(made, "n", order_by(made, "n")), True)
        self.assertEqual(reads_by(made, "n")["z"], ["a", "x"])
        self.assertIs(is_ring_by(made, "n", ["p", "s"]), False)

    def test_a_ring_through_a_clocks_last_name(self):
        made = program(APART, "node n in a b out y\nk = a when q\nx y z w = call two k k\nh = hold 0 y\nq = ( h < 2 )")
        self.assertEqual(reads_by(made, "n")["y"], ["q"])
        ring = self.refusal(Ring, order_by, made, "n").paper
        self.assertIs(is_ring_by(made, "n", ring), True)
        for right in (["y", "q", "h"], ["h", "y", "q"]):
            self.assertIs(is_ring_by(made, "n", right), True)
        low = "node low in a c out o x\no = ( c = true )\ny = a when o\nx = 1 like y"
        made = program(low, "node n in a b out u\nt u = call low a v\nw = hold 0 u\nv = ( w < 2 )")
        self.assertEqual(reads_by(made, "n")["u"], ["t", "v"])
        self.assertIs(is_ring_by(made, "n", self.refusal(Ring, order_by, made, "n").paper), True)


class ManyTest(FittingCase):
    def test_programs_sound_and_spoilt(self):
        chance = random.Random(91)
        seen = {}
        while min(seen.get(word, 0) for word in KINDS if word != "args") < 3 or seen.get("sound", 0) < 200:
            made, _ = sound_program(chance, chance.randint(1, 4), 9)
            for _ in range(chance.randint(0, 2)):
                made = spoilt_program(chance, made)
            fitted = Fitted(made)
            for name in made.names():
                for each in self.words_of(made, name, fitted):
                    seen[each] = seen.get(each, 0) + 1

    def words_of(self, made, name, fitted):
        first = [each for each in [*made.below(name), name] if fitted.refusals.get(each, (None,)) is not None][:1]
        try:
            told = summary_of(made, name)
        except BeatError as refusal:
            kind, wanted = fitted.refusals[first[0]]
            self.assertIs(type(refusal), kind)
            if kind is NoFit:
                self.assertIn(refusal.paper[0], wanted)
                self.assertIs(is_clash_by(made, first[0], refusal.paper), True)
                return [refusal.paper[0]]
            if kind is Ring:
                self.assertLessEqual(set(refusal.paper), wanted)
                self.assertIs(is_ring_by(made, first[0], refusal.paper), True)
                return ["ring"]
            fields = (refusal.name,) if kind is NoClock else (refusal.name, refusal.other)
            self.assertEqual(fields, (wanted,) if kind is NoClock else wanted)
            return ["none" if kind is NoClock else "hidden"]
        self.assertEqual(first, [])
        self.assert_exact(told, fitted.summaries[name])
        self.assert_exact(list(clocks_by(made, name).items()), list(fitted.clocks[name].items()))
        self.assert_exact(list(reads_by(made, name).items()), list(fitted.reads[name].items()))
        self.assertIs(is_order_by(made, name, order_by(made, name)), True)
        return ["sound"]

    def test_spoilt_clashes(self):
        chance = random.Random(93)
        seen = [0, 0]
        while min(seen) < 150:
            made, _ = sound_program(chance, chance.randint(2, 4), 9)
            name = made.names()[-1]
            made = spoilt_program(chance, made)
            try:
                clocks_by(made, name)
            except NoFit as refusal:
                fitted = Fitted(made)
                if name in fitted.refusals and made.named(name).has_calls():
                    for _ in range(8):
                        other = spoilt(chance, refusal.paper, made.named(name))
                        wanted = self.is_right_clash(fitted, made.named(name), other)
                        self.assertIs(is_clash_by(made, name, other), wanted, (made.told(), other))
                        seen[wanted] += 1
            except BeatError:
                pass

    def is_right_clash(self, fitted, node, thing):
        """Whether a thing is a clash, by the document's words alone."""
        if not isinstance(thing, tuple) or len(thing) != 4 or not isinstance(thing[1], list):
            return False
        word, steps, one, other = thing
        for at, step in enumerate(steps):
            if not isinstance(step, tuple) or len(step) != 3:
                return False
            led = [(name, (), None) for name in node.inputs()]
            for name, clock, _ in steps[:at]:
                led += [(*each, name) for row in node.rows() for each in fitted.led(row, name, clock)]
            if step not in led:
                return False
        ones, others = [[clock for name, clock, _ in steps if name == each] for each in (one, other)]
        unlike = any(first != second for first in ones for second in others)
        rows = [row.told() for row in node.rows()]
        if word == "two":
            return one == other and unlike
        if word == "hold":
            return () in others and any(row[0] == "hold" and (row[1], row[3]) == (one, other) for row in rows)
        groups = [row[-1] for row in rows if row[0] in ("same", "call")]
        return word == "same" and unlike and one != other and any(one in group and other in group for group in groups)

    def test_nodes_without_calls_are_sound_just_where_they_are_alone(self):
        chance = random.Random(92)
        for _ in range(150):
            made, _ = sound_program(chance, 1, 12)
            made = spoilt_program(chance, made)
            try:
                wanted = need_sound(made.named("d"))[0]
            except BeatError as refusal:
                self.refusal(type(refusal), sound_by, made, "d")
                continue
            self.assert_exact(sound_by(made, "d")[0], wanted)


if __name__ == "__main__":
    unittest.main()
