import unittest

from beatrows.errors import NoArgs, NoCall, NoName, NoNode, NoOut, NoProgram, NoRead, NoText, Twice, Unknown
from beatrows.nodes import Node, same_node
from beatrows.nodetext import read_node, read_nodes
from beatrows.programs import Program, program_of, read_program, show_program

from cases import BeatCase, nested, no_texts, wild_texts

A = ("name", "a")
LOW = "node low in a out x\nx = a"
PAIR = "node pair in a b out x y\nx = ( a + b )\ny = ( a - b )"
MID = "node mid in a out x\np q = call pair a a\nx = call low p"
TOP = "node top in a b out s\nr = call mid a\ns t = call pair b s\nu = call low r\nv = call mid v"
TEXT = "\n".join([LOW, PAIR, MID, TOP])
NAMES = ["low", "pair", "mid", "top"]


def made(*texts):
    return Program([read_node(text) for text in texts])


def node(name, *rows, inputs=("a",), outs=("x",)):
    return Node(name, inputs, outs, rows)


def small(name):
    return node(name, ("plain", "x", A))


class MadeTest(BeatCase):
    def refused(self, kind, fields, nodes):
        self.assert_refused(kind, fields, Program, list(nodes))
        self.assert_refused(kind, fields, Program, tuple(nodes))

    def test_lists_and_tuples_are_taken(self):
        nodes = read_nodes(TEXT)
        self.assertEqual(Program(nodes).names(), NAMES)
        self.assertEqual(Program(tuple(nodes)).names(), NAMES)

    def test_what_is_no_list_and_no_tuple_or_has_nothing_in_it(self):
        for thing in [*no_texts(), *wild_texts(), {"low": small("low")}, small("low"), [], ()]:
            if not isinstance(thing, (list, tuple)) or not thing:
                self.assert_refused(NoProgram, {"found": thing}, Program, thing)

    def test_things_that_are_no_nodes(self):
        one = small("one")
        for thing in [*no_texts(), *wild_texts(), one.told(), [one], (one,), made(LOW)]:
            if not isinstance(thing, Node):
                self.refused(NoNode, {"found": thing}, [thing])
                self.refused(NoNode, {"found": thing}, [one, thing])
                self.refused(NoNode, {"found": thing}, [thing, one, 7])

    def test_no_node_ahead_of_a_name_twice(self):
        self.refused(NoNode, {"found": 7}, [small("one"), small("one"), 7])

    def test_a_name_twice(self):
        one, other, call = small("one"), small("other"), node("one", ("call", ("x",), "none", ("a",)))
        self.refused(Twice, {"name": "one"}, [one, one])
        self.refused(Twice, {"name": "one"}, [one, other, small("one"), other])
        self.refused(Twice, {"name": "other"}, [one, other, other, one])
        # Ahead of all that is looked at node by node.
        self.refused(Twice, {"name": "one"}, [call, one])
        self.refused(Twice, {"name": "one"}, [node("dot", ("plain", "x", ("name", "a.b")), inputs=("a.b",)), one, one])

    def test_names_with_points(self):
        told = ("plain", "x", A)
        self.refused(NoName, {"found": "b.c"}, [node("one", told, inputs=("a", "b.c", "d.e"))])
        self.refused(NoName, {"found": "y.z"}, [node("one", told, ("like", "y.z", 1, "a"), ("like", "y.y", 1, "a"))])
        self.refused(NoName, {"found": "x.y"}, [node("one", ("plain", "x.y", A), outs=("x.y",))])
        self.refused(NoName, {"found": "a.a"}, [node("one", told, ("like", "b.b", 1, "a"), inputs=("a", "a.a"))])
        called = ("call", ("x", "b.c"), "low", ("a",))
        self.refused(NoName, {"found": "b.c"}, [small("low"), node("one", called)])

    def test_points_ahead_of_calls_in_one_node(self):
        call = ("call", ("x",), "none", ("a",))
        self.refused(NoName, {"found": "y.z"}, [node("one", call, ("like", "y.z", 1, "a"))])

    def test_calls_of_no_node_ahead(self):
        for name in ("one", "none", "late"):
            call = node("one", ("call", ("x",), name, ("a",)))
            self.refused(NoCall, {"name": name}, [call, small("late")])
            self.refused(NoCall, {"name": name}, [small("low"), call, small("late")])

    def test_no_node_ahead_of_the_number_of_args(self):
        self.refused(NoCall, {"name": "one"}, [node("one", ("call", ("x", "y"), "one", ("a", "a", "a")))])

    def test_args_fewer_and_more(self):
        for many in (1, 3, 4):
            call = node("one", ("call", ("x", "y"), "pair", ("a",) * many))
            self.refused(NoArgs, {"name": "pair", "many": many}, [read_node(PAIR), call])

    def test_outs_fewer_and_more(self):
        for outs in (["x"], ["x", "y", "z"], ["x", "y", "z", "w"]):
            call = node("one", ("call", tuple(outs), "pair", ("a", "a")))
            self.refused(NoArgs, {"name": "pair", "many": len(outs)}, [read_node(PAIR), call])

    def test_args_ahead_of_outs(self):
        for args, outs in [(1, ["x", "y", "z"]), (3, ["x"]), (1, ["x"])]:
            call = node("one", ("call", tuple(outs), "pair", ("a",) * args))
            self.refused(NoArgs, {"name": "pair", "many": args}, [read_node(PAIR), call])

    def test_the_first_of_two_rows_is_refused_first(self):
        low, pair = small("low"), read_node(PAIR)
        none = ("call", ("x",), "none", ("a",))
        outs = ("call", ("y", "z", "w"), "pair", ("a", "a"))
        args = ("call", ("v",), "low", ("a", "a"))
        for rows, kind, fields in [
            ((none, outs, args), NoCall, {"name": "none"}),
            ((outs, none, args), NoArgs, {"name": "pair", "many": 3}),
            ((outs, args, none), NoArgs, {"name": "pair", "many": 3}),
            ((args, outs, none), NoArgs, {"name": "low", "many": 2}),
            ((("plain", "u", A), args, none), NoArgs, {"name": "low", "many": 2}),
        ]:
            self.refused(kind, fields, [low, pair, node("one", *rows)])

    def test_the_first_of_two_nodes_is_refused_first(self):
        call = node("one", ("call", ("x",), "none", ("a",)))
        args = node("args", ("call", ("x",), "low", ("a", "a")))
        dot = node("dot", ("plain", "x", A), ("like", "y.z", 1, "a"))
        low = small("low")
        self.refused(NoCall, {"name": "none"}, [low, call, dot, args])
        self.refused(NoName, {"found": "y.z"}, [low, dot, args, call])
        self.refused(NoArgs, {"name": "low", "many": 2}, [low, args, dot, call])

    def test_one_arg_several_times_and_own_outs_as_args(self):
        program = made(LOW, PAIR, "node one in a out x\nx y = call pair a a\nz = call low z\nv w = call pair w v")
        self.assertEqual(program.calls_in("one"), [("x", "pair"), ("z", "low"), ("v", "pair")])

    def test_the_list_stays_and_may_be_changed_behind(self):
        nodes = read_nodes(TEXT)
        kept = list(nodes)
        program = Program(nodes)
        self.assertEqual(nodes, kept)
        nodes.reverse()
        nodes.pop()
        self.assertEqual(program.names(), NAMES)
        self.assertEqual(show_program(program), TEXT)

    def test_a_refused_list_stays(self):
        nodes = [small("one"), 7, small("one")]
        kept = list(nodes)
        self.assert_refused(NoNode, {"found": 7}, Program, nodes)
        self.assertEqual(nodes, kept)

    def test_bounds(self):
        many = [small("abcdefgh"[at:]) for at in range(8)]
        self.assertEqual(len(Program(many).names()), 8)
        self.assertEqual(len(Program([*many, small("z"), small("y")]).names()), 10)


class AskedTest(BeatCase):
    def test_names(self):
        self.assert_new_list(read_program(TEXT).names, NAMES)

    def test_named(self):
        program = read_program(TEXT)
        for name, text in zip(NAMES, [LOW, PAIR, MID, TOP]):
            self.assertIs(type(program.named(name)), Node)
            self.assertTrue(same_node(program.named(name), read_node(text)))

    def test_calls_in(self):
        program = read_program(TEXT)
        for name, wanted in [
            ("low", []), ("pair", []), ("mid", [("p", "pair"), ("x", "low")]),
            ("top", [("r", "mid"), ("s", "pair"), ("u", "low"), ("v", "mid")]),
        ]:
            self.assert_exact(program.calls_in(name), wanted)
            self.assert_new_list(lambda: program.calls_in(name), wanted)

    def test_below(self):
        program = read_program(TEXT)
        for name, wanted in [("low", []), ("pair", []), ("mid", ["low", "pair"]), ("top", ["low", "pair", "mid"])]:
            self.assert_new_list(lambda: program.below(name), wanted)

    def test_below_stands_in_the_programs_order_and_has_calls_of_calls(self):
        texts = [
            "node e in a out x\nx = a", "node d in a out x\nx = a", "node c in a out x\nx = call e a",
            "node b in a out x\nx = call c a\ny = call d a", "node f in a out x\nx = call e a",
            "node g in a out x\nx = call f a\ny = call b a\nz = call f a", "node h in a out x\nx = call d a",
        ]
        program = made(*texts)
        for name, wanted in [
            ("e", ""), ("d", ""), ("c", "e"), ("b", "edc"), ("f", "e"), ("g", "edcbf"), ("h", "d"),
        ]:
            self.assertEqual(program.below(name), list(wanted))

    def test_below_of_a_long_chain(self):
        letters = "abcdefgh"
        texts = ["node a in a out x\nx = a"]
        for at in range(1, 8):
            texts.append(f"node {letters[at]} in a out x\nx = call {letters[at - 1]} a")
        for at, name in enumerate(letters):
            self.assertEqual(made(*texts).below(name), list(letters[:at]))

    def test_what_is_the_name_of_no_node(self):
        program = read_program(TEXT)
        for thing in [*no_texts(), *wild_texts(), "a", "x", "top.r", "none", ["top"], ("top",), {"top": 1}]:
            for asked in (program.named, program.calls_in, program.below):
                self.assert_refused(Unknown, {"name": thing}, asked, thing)


class ToldTest(BeatCase):
    def test_told_and_made_again(self):
        for text in (LOW, TEXT, LOW + "\n" + PAIR):
            nodes = read_nodes(text)
            program = Program(nodes)
            self.assert_exact(program.told(), tuple([each.told() for each in nodes]))
            again = program_of(program.told())
            self.assertIs(type(again), Program)
            self.assert_exact(again.told(), program.told())

    def test_truths_stay_truths(self):
        for value in (True, 1):
            program = program_of((("n", ("a",), ("x",), (("like", "x", value, "a"),)),))
            self.assert_exact(program.told(), (("n", ("a",), ("x",), (("like", "x", value, "a"),)),))

    def test_what_is_told_by_no_program(self):
        program = read_program(TEXT)
        told = program.told()
        for thing in [
            *no_texts(), *wild_texts(), program, list(told), told[0], [told[0]], (told[0], told[0]), (told[3],),
            tuple(reversed(told)), told[1:], (list(told[0]),), (told[0], 7), (7, told[0]), (program.named("low"),),
            (("n", ["a"], ("x",), (("plain", "x", A),)),), (("n", ("a",), ("x",), (("plain", "x", ("name", "b")),)),),
            (("n", ("a", "b.c"), ("x",), (("plain", "x", A),)),), (("n", ("a",), ("y",), (("plain", "x", A),)),),
            ((told,),), nested(20, told[0], lambda thing: (thing,)),
        ]:
            self.assert_refused(NoProgram, {"found": thing}, program_of, thing)


class TextTest(BeatCase):
    def test_written_and_read_back(self):
        for text in (LOW, TEXT, PAIR + "\n" + LOW):
            program = read_program(text)
            self.assertIs(type(program), Program)
            self.assertEqual(show_program(program), text)
            self.assert_exact(read_program(show_program(program)).told(), program.told())

    def test_programs_without_points_are_the_same_when_read_back(self):
        for told in (
            (("n", ("a",), ("x", "y"), (("like", "x", True, "a"), ("like", "y", 1, "a"), ("same", ("a", "a")))),),
            (
                (
                    "m", ("a", "b"), ("x", "y"),
                    (("before", "x", -3, "b"), ("hold", "y", False, "w"), ("when", "w", "a", "b")),
                ),
                ("n", ("a",), ("x",), (("call", ("x", "y"), "m", ("y", "y")),)),
            ),
        ):
            self.assert_exact(read_program(show_program(program_of(told))).told(), told)

    def test_refused_as_texts(self):
        for thing in no_texts():
            self.assert_refused(NoText, {"at": 0}, read_program, thing)
        for text in wild_texts():
            if text:
                self.assert_refused(NoText, {"at": 0}, read_program, text)
        self.assert_refused(NoText, {"at": 2}, read_program, LOW + "\n")
        self.assert_refused(NoText, {"at": 3}, read_program, LOW + "\n" + LOW.replace("= a", "= A"))

    def test_refused_as_nodes(self):
        for kind, fields, text in [
            (Unknown, {"name": "b"}, "node n in a out x\nx = b"), (NoOut, {"name": "y"}, "node n in a out y\nx = a"),
            (NoRead, {"name": "x"}, "node n in a out x\nx = 1"), (Twice, {"name": "a"}, "node n in a a out x\nx = a"),
        ]:
            self.assert_refused(kind, fields, read_program, text)
            # Ahead of what is refused as a program.
            self.assert_refused(kind, fields, read_program, "\n".join([LOW, LOW, text]))
            self.assert_refused(kind, fields, read_program, "node m in a out x\nx = call m a\n" + text)

    def test_refused_as_programs(self):
        self.assert_refused(NoProgram, {"found": []}, read_program, "")
        self.assert_refused(Twice, {"name": "low"}, read_program, LOW + "\n" + LOW)
        self.assert_refused(NoCall, {"name": "low"}, read_program, MID.replace("pair a a", "low a") + "\n" + LOW)
        head = LOW + "\nnode n in a out x\n"
        self.assert_refused(NoArgs, {"name": "low", "many": 2}, read_program, head + "x = call low a a")
        self.assert_refused(NoArgs, {"name": "low", "many": 3}, read_program, head + "x y z = call low a")

    def test_texts_ahead_of_nodes_and_these_ahead_of_programs(self):
        node_text, program_text = "node n in a out x\nx = b", "node m in a out x\nx = call m a"
        self.assert_refused(NoText, {"at": 4}, read_program, "\n".join([program_text, node_text, "x"]))
        self.assert_refused(Unknown, {"name": "b"}, read_program, "\n".join([program_text, node_text]))
        self.assert_refused(NoCall, {"name": "m"}, read_program, program_text)


if __name__ == "__main__":
    unittest.main()
