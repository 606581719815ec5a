import unittest

from beatrows.errors import NoEquation, NoName, NoNode, NoOut, NoRead, Twice, Unknown
from beatrows.equations import equation_of
from beatrows.nodes import Node, node_of, same_node

from cases import BeatCase, no_texts, wild_texts

A = ("name", "a")
ROWS = (
    ("plain", "c", ("two", "<", A, ("value", 5))),
    ("when", "x", "a", "c"),
    ("hold", "y.z", -3, "x"),
    ("same", ("a", "y.z")),
    ("call", ("p", "q"), "m", ("y.z", "b")),
    ("before", "d", True, "e"),
    ("like", "e", 1, "b"),
)
TOLD = ("n", ("a", "b"), ("y.z", "p"), ROWS)


def node():
    return Node(*TOLD)


class MadeTest(BeatCase):
    def refused(self, kind, fields, inputs=("a",), outs=("x",), rows=(("plain", "x", A),)):
        """A node that is refused, whether it is made of tuples or of lists."""
        for made_of in (tuple, list):
            self.assert_refused(kind, fields, Node, "n", made_of(inputs), made_of(outs), made_of(rows))

    def test_lists_and_tuples_are_taken(self):
        for kind in (list, tuple):
            made = Node("n", kind(["a", "b"]), kind(["y.z", "p"]), kind(ROWS))
            self.assert_exact(made.told(), TOLD)

    def test_names_that_are_none(self):
        for thing in [*no_texts(), *wild_texts(), "a.b", "node"]:
            self.assert_refused(NoName, {"found": thing}, Node, thing, [], [], [])

    def test_inputs_and_outs_that_are_no_lists(self):
        for thing in [None, True, 1, "", "a", "ab", {}, {"a": 1}, node(), [], ()]:
            found = self.refusal(NoNode, Node, "n", thing, ["x"], [("plain", "x", A)])
            self.assertIs(found.found, thing)
            found = self.refusal(NoNode, Node, "n", ["a"], thing, [("plain", "x", A)])
            self.assertIs(found.found, thing)

    def test_inputs_and_outs_with_things_that_are_no_names(self):
        for thing in [*no_texts(), *wild_texts(), "true"]:
            for names in [[thing], ["a", thing], [thing, thing], ["a", thing, "a"]]:
                self.assertIs(self.refusal(NoName, Node, "n", names, ["x"], [("plain", "x", A)]).found, thing)
                self.assertIs(self.refusal(NoName, Node, "n", ["b"], names, [("plain", "x", A)]).found, thing)

    def test_inputs_and_outs_that_stand_twice(self):
        for names, twice in [(["a", "a"], "a"), (["a", "b.c", "b.c", "a"], "b.c"), (("a", "b", "a", 5), "a")]:
            self.refused(Twice, {"name": twice}, inputs=names)
            self.refused(Twice, {"name": twice}, inputs=("q",), outs=names)

    def test_rows_that_are_no_lists(self):
        for thing in [None, True, 1, "", "x = a", {}, {("plain", "x", A): 1}, node()]:
            self.assertIs(self.refusal(NoNode, Node, "n", ["a"], ["x"], thing).found, thing)

    def test_rows_that_tell_no_equation(self):
        good = ("plain", "x", A)
        for thing in [*no_texts(), *wild_texts(), "x = a", list(good), ("plain", "x"), equation_of(good)]:
            for rows in [[thing], [good, thing], [good, thing, ()]]:
                self.assertIs(self.refusal(NoEquation, Node, "n", ["a"], ["x"], rows).found, thing)

    def test_plain_rows_without_names(self):
        one = ("value", 1)
        for told in [one, ("value", True), ("not", ("value", False)), ("two", "+", one, one)]:
            self.refused(NoRead, {"name": "x.y"}, rows=(("plain", "x.y", told),))
            self.refused(NoRead, {"name": "x"}, rows=(("like", "y", 1, "a"), ("plain", "x", told)))
        made = Node("n", ["a"], ["x"], [("like", "x", 1, "a")])
        self.assertEqual(made.names(), ["a", "x"])

    def test_told_names_that_stand_twice(self):
        x = ("plain", "x", A)
        self.refused(Twice, {"name": "a"}, rows=(("plain", "a", A),))
        self.refused(Twice, {"name": "a"}, rows=(x, ("before", "a", 1, "x")))
        self.refused(Twice, {"name": "x"}, rows=(x, ("like", "x", 1, "a")))
        self.refused(Twice, {"name": "x"}, rows=(x, ("call", ("y", "x"), "m", ("a",))))
        self.refused(Twice, {"name": "y"}, rows=(x, ("call", ("y", "y"), "m", ("a",))))
        self.refused(Twice, {"name": "a"}, rows=(x, ("call", ("y", "a"), "m", ("a",))))
        self.refused(Twice, {"name": "y"}, rows=(("call", ("y", "x", "y", "x"), "m", ("a",)),))
        self.refused(Twice, {"name": "y"}, rows=(("call", ("y", "x"), "m", ("a",)), ("when", "y", "a", "a"), x))

    def test_mentioned_names_that_are_unknown(self):
        x = ("plain", "x", A)
        for row, name in [
            (("plain", "y", ("two", "+", A, ("name", "u"))), "u"), (("before", "y", 1, "u"), "u"),
            (("when", "y", "u", "v"), "u"), (("when", "y", "a", "v"), "v"), (("hold", "y", 1, "u.v"), "u.v"),
            (("like", "y", 1, "u"), "u"), (("same", ("a", "u", "v")), "u"),
            (("call", ("y", "z"), "m", ("a", "u", "v")), "u"), (("call", ("y",), "m", ("m",)), "m"),
        ]:
            self.refused(Unknown, {"name": name}, rows=(x, row))
            self.refused(Unknown, {"name": name}, rows=(row, x, ("same", ("w", "a"))))

    def test_rows_may_mention_what_is_told_behind_or_by_themselves(self):
        rows = [("plain", "x", ("name", "y")), ("plain", "y", ("name", "x")), ("before", "z", 1, "z"),
                ("call", ("p", "q"), "m", ("p", "x"))]
        self.assertEqual(Node("n", ["a"], ["x"], rows).names(), ["a", "x", "y", "z", "p", "q"])

    def test_outs_that_no_row_tells(self):
        self.refused(NoOut, {"name": "y"}, outs=("y",))
        self.refused(NoOut, {"name": "y"}, outs=("x", "y", "z"))
        self.refused(NoOut, {"name": "a"}, outs=("a",))
        self.refused(NoOut, {"name": "a"}, outs=("x", "a", "y"))
        self.refused(NoOut, {"name": "x"}, rows=())
        self.refused(NoOut, {"name": "x"}, rows=(("same", ("a", "a")),))

    def test_what_is_due_first_among_the_parts(self):
        no_row = ("plain", "x")
        bad_names = [
            (None, NoNode, {"found": None}), ((), NoNode, {"found": ()}),
            (["a", 5, "a", "a"], NoName, {"found": 5}), (["a", "a", 5], Twice, {"name": "a"}),
        ]
        for names, kind, fields in bad_names:
            self.assert_refused(NoName, {"found": "N"}, Node, "N", names, (), "rows")
            self.assert_refused(kind, fields, Node, "n", names, (), "rows")
            self.assert_refused(kind, fields, Node, "n", names, ["x", "x"], "rows")
            self.assert_refused(kind, fields, Node, "n", ["a"], names, "rows")
            self.assert_refused(kind, fields, Node, "n", ["a"], names, [no_row])
        self.assert_refused(NoNode, {"found": "rows"}, Node, "n", ["a"], ["q"], "rows")
        self.assert_refused(NoEquation, {"found": no_row}, Node, "n", ["a"], ["q"], [no_row])

    def test_what_is_due_first_among_rows(self):
        no_row, no_read = ("plain", "y"), ("plain", "y", ("value", 1))
        twice, unknown = ("plain", "a", A), ("plain", "y", ("name", "u"))
        for rows, kind, fields in [
            ((no_row, no_read), NoEquation, {"found": no_row}),
            ((no_read, no_row), NoRead, {"name": "y"}),
            ((twice, no_row), NoEquation, {"found": no_row}),
            ((twice, no_read), NoRead, {"name": "y"}),
            ((("plain", "a", ("value", 1)),), NoRead, {"name": "a"}),
            ((unknown, twice), Twice, {"name": "a"}),
            ((("plain", "a", ("name", "u")),), Twice, {"name": "a"}),
            ((unknown, no_read), NoRead, {"name": "y"}),
            ((unknown,), Unknown, {"name": "u"}),
        ]:
            self.refused(kind, fields, rows=rows)
            self.refused(kind, fields, outs=("a",), rows=rows)


class AskedTest(BeatCase):
    NAMES = ["a", "b", "c", "x", "y.z", "p", "q", "d", "e"]

    def test_lists(self):
        made = node()
        self.assertEqual(made.name, "n")
        self.assert_new_list(made.inputs, ["a", "b"])
        self.assert_new_list(made.outs, ["y.z", "p"])
        self.assert_new_list(made.names, self.NAMES)
        self.assertEqual(list(vars(made))[0], "name")

    def test_rows(self):
        made = node()
        told = made.rows()
        self.assertIs(type(told), list)
        self.assert_exact([row.told() for row in told], list(ROWS))
        told.clear()
        self.assert_exact([row.told() for row in made.rows()], list(ROWS))

    def test_teller(self):
        made = node()
        tellers = {"c": 0, "x": 1, "y.z": 2, "p": 4, "q": 4, "d": 5, "e": 6}
        for name in made.names():
            if name in tellers:
                self.assert_exact(made.teller(name).told(), ROWS[tellers[name]])
            else:
                self.assertIsNone(made.teller(name))
        self.assertIsNone(made.teller("a"))
        self.assertIsNone(made.teller("b"))

    def test_teller_of_what_is_no_name_of_it(self):
        made = node()
        for thing in [*no_texts(), *wild_texts(), "n", "m", "z", "y", "u", "C"]:
            self.assertIs(self.refusal(Unknown, made.teller, thing).name, thing)

    def test_calls(self):
        self.assertIs(node().has_calls(), True)
        self.assertIs(Node("n", ["a"], ["x"], [("plain", "x", A)]).has_calls(), False)

    def test_what_is_handed_in_is_kept_as_a_copy_and_not_changed(self):
        inputs, outs, rows = ["a", "b"], ["y.z", "p"], list(ROWS)
        made = Node("n", inputs, outs, rows)
        self.assertEqual((inputs, outs, rows), (["a", "b"], ["y.z", "p"], list(ROWS)))
        inputs.append("r")
        outs.clear()
        rows.reverse()
        self.assert_exact(made.told(), TOLD)
        self.assertEqual(made.inputs(), ["a", "b"])
        self.assertEqual(made.names(), self.NAMES)

    def test_large_nodes(self):
        letters = "abcdefghjklmpqrst"
        inputs = [one + other for one in letters for other in letters]
        rows = [("plain", "x" + name, ("name", name)) for name in inputs]
        made = Node("n", inputs, ["x" + name for name in inputs], rows)
        self.assertEqual(made.names(), inputs + ["x" + name for name in inputs])


class ToldTest(BeatCase):
    def test_told_and_made_again(self):
        made = node()
        self.assert_exact(made.told(), TOLD)
        again = node_of(made.told())
        self.assertIs(type(again), Node)
        self.assert_exact(again.told(), TOLD)
        self.assertEqual(again.names(), made.names())

    def test_what_is_told_by_no_node(self):
        name, inputs, outs, rows = TOLD
        wrong = [
            *no_texts(), *wild_texts(), "n", node(), list(TOLD), TOLD[:3], (*TOLD, ()), (TOLD,),
            ("N", inputs, outs, rows), ("n.m", inputs, outs, rows), (1, inputs, outs, rows),
            (name, list(inputs), outs, rows), (name, inputs, list(outs), rows), (name, inputs, outs, list(rows)),
            (name, "ab", outs, rows), (name, inputs, {"p": 1}, rows), (name, (), outs, rows), (name, inputs, (), rows),
            (name, ("a", "b", "b"), outs, rows), (name, ("a", 1), outs, rows), (name, inputs, ("p", "p"), rows),
            (name, inputs, ("r",), rows), (name, inputs, ("a",), rows), (name, inputs, outs, ()),
            (name, inputs, outs, rows[1:]), (name, inputs, outs, (*rows, rows[0])), (name, inputs, outs, (*rows, 1)),
            (name, inputs, outs, (*rows, list(rows[0]))), (name, inputs, outs, (*rows, ("plain", "v", ("value", 1)))),
            (name, inputs, outs, rows[0]), (name, inputs, outs, tuple(node().rows())),
        ]
        for thing in wrong:
            self.assertIs(self.refusal(NoNode, node_of, thing).found, thing)

    def test_same_nodes(self):
        self.assertIs(same_node(node(), node()), True)
        self.assertIs(same_node(node(), node_of(node().told())), True)
        one = node()
        self.assertIs(same_node(one, one), True)

    def other_nodes(self):
        """Nodes that tell one thing otherwise than the first one does."""
        told = ("n", ("a", "b"), ("x", "y"), (("plain", "x", A), ("before", "y", 1, "b"), ("same", ("a", "b"))))
        first, second, third = told[3]
        return [
            told, ("m", *told[1:]), (told[0], ("b", "a"), *told[2:]), (told[0], ("a", "b", "c"), *told[2:]),
            (*told[:2], ("y", "x"), told[3]), (*told[:2], ("x",), told[3]), (*told[:3], (second, first, third)),
            (*told[:3], (first, second)), (*told[:3], (first, second, third, third)),
            (*told[:3], (("plain", "x", ("name", "b")), second, third)),
            (*told[:3], (("like", "x", 1, "a"), second, third)),
            (*told[:3], (first, ("before", "y", True, "b"), third)),
            (*told[:3], (first, ("before", "y", 2, "b"), third)),
            (*told[:3], (first, ("hold", "y", 1, "b"), third)), (*told[:3], (first, second, ("same", ("b", "a")))),
            (*told[:3], (first, second, ("same", ("a", "b", "a")))),
        ]

    def test_nodes_that_are_not_the_same(self):
        nodes = [node_of(told) for told in self.other_nodes()]
        for at, one in enumerate(nodes):
            for place, other in enumerate(nodes):
                self.assertIs(same_node(one, other), at == place)

    def test_a_truth_beside_a_number(self):
        for one, other in [(True, 1), (False, 0)]:
            for row in [
                lambda value: ("before", "x", value, "a"), lambda value: ("hold", "x", value, "a"),
                lambda value: ("like", "x", value, "a"),
                lambda value: ("plain", "x", ("pick", A, A, ("not", ("value", value)))),
            ]:
                first, second = Node("n", ["a"], ["x"], [row(one)]), Node("n", ["a"], ["x"], [row(other)])
                self.assertIs(same_node(first, second), False)
                self.assertIs(same_node(second, first), False)
                self.assertIs(same_node(first, node_of(first.told())), True)
                self.assert_exact(node_of(first.told()).told(), first.told())


if __name__ == "__main__":
    unittest.main()
