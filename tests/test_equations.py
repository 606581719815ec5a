import unittest

from beatrows import equations
from beatrows.equations import Before, Call, Equation, Hold, Like, Plain, Same, When, equation_of
from beatrows.errors import NoEquation, NoName
from beatrows.terms import Term

from cases import BeatCase, nested, no_texts, wild_texts

METHODS = {
    "told": [], "tells": [], "names": [], "term": [], "is_call": [], "renamed": ["names"], "words": [],
}
A, B = ("name", "a"), ("name", "b")
EIGHTY = ".".join(["abcdefgh"] * 9)

# What is told, its class, what it tells, what it mentions, its words.
ROWS = [
    (("plain", "x", A), Plain, ["x"], ["a"], "x = a"),
    (("plain", "x.y", ("two", "+", B, ("two", "*", A, B))), Plain, ["x.y"], ["b", "a"], "x.y = ( b + ( a * b ) )"),
    (("plain", "x", ("value", True)), Plain, ["x"], [], "x = true"),
    (("plain", "x", ("value", -3)), Plain, ["x"], [], "x = -3"),
    (("plain", "x", ("name", "x")), Plain, ["x"], ["x"], "x = x"),
    (("plain", "x", ("pick", ("not", B), A, ("name", "c.d"))), Plain, ["x"], ["b", "a", "c.d"],
     "x = ( ( ! b ) ? a : c.d )"),
    (("before", "x", 0, "a"), Before, ["x"], ["a"], "x = before 0 a"),
    (("before", "x.y", False, "a.b"), Before, ["x.y"], ["a.b"], "x.y = before false a.b"),
    (("before", "x", -(10 ** 9), "x"), Before, ["x"], ["x"], "x = before -1000000000 x"),
    (("when", "x", "a", "c"), When, ["x"], ["a", "c"], "x = a when c"),
    (("when", "x", "c.d", "a"), When, ["x"], ["c.d", "a"], "x = c.d when a"),
    (("when", "x", "a", "a"), When, ["x"], ["a"], "x = a when a"),
    (("hold", "x", 1, "a"), Hold, ["x"], ["a"], "x = hold 1 a"),
    (("hold", "x", True, EIGHTY), Hold, ["x"], [EIGHTY], "x = hold true " + EIGHTY),
    (("like", "x", 7, "a"), Like, ["x"], ["a"], "x = 7 like a"),
    (("like", "x", True, "a.b"), Like, ["x"], ["a.b"], "x = true like a.b"),
    (("same", ("b", "a")), Same, [], ["b", "a"], "same b a"),
    (("same", ("b", "a", "b", "a.c")), Same, [], ["b", "a", "a.c"], "same b a b a.c"),
    (("same", ("a", "a")), Same, [], ["a"], "same a a"),
    (("call", ("x",), "n", ("a",)), Call, ["x"], ["a"], "x = call n a"),
    (("call", ("y", "x", "z.a"), "n", ("b", "a", "b")), Call, ["y", "x", "z.a"], ["b", "a"], "y x z.a = call n b a b"),
    (("call", ("x", "x"), "n", ("x", "c.d")), Call, ["x", "x"], ["x", "c.d"], "x x = call n x c.d"),
]


class ToldTest(BeatCase):
    def test_classes_stand_straight_under_equation(self):
        for kind in (Plain, Before, When, Hold, Like, Same, Call):
            self.assertEqual(kind.__bases__, (Equation,))
        self.assertEqual(len(Equation.__subclasses__()), 7)
        self.assertEqual(equations.equation_of.__module__, "beatrows.equations")

    def test_equation_and_the_kinds_under_it_define_each_method_in_their_own_body(self):
        for kind in (Equation, Plain, Before, When, Hold, Like, Same, Call):
            self.assert_own_methods(kind, METHODS)

    def test_told_and_made_again(self):
        for told, kind, _, _, _ in ROWS:
            equation = equation_of(told)
            self.assertIs(type(equation), kind)
            self.assert_exact(equation.told(), told)
            self.assert_exact(equation_of(equation.told()).told(), told)

    def test_a_truth_is_no_number(self):
        for word in ("before", "hold", "like"):
            for value in (True, 1, False, 0):
                self.assert_exact(equation_of((word, "x", value, "a")).told(), (word, "x", value, "a"))
        for value in (True, 1, False, 0):
            told = ("plain", "x", ("two", "=", A, ("value", value)))
            self.assert_exact(equation_of(told).told(), told)

    def refused(self, thing):
        self.assertIs(self.refusal(NoEquation, equation_of, thing).found, thing)

    def test_things_of_other_kinds(self):
        for thing in [*no_texts(), *wild_texts(), "plain", "x = a", *[words for _, _, _, _, words in ROWS]]:
            self.refused(thing)

    def test_equations_and_lists_are_no_tuples(self):
        for told, _, _, _, _ in ROWS:
            self.refused(equation_of(told))
            self.refused(list(told))
            self.refused((told,))

    def test_a_thing_less_or_more(self):
        for told, _, _, _, _ in ROWS:
            for at in range(len(told)):
                self.refused(told[:at] + told[at + 1:])
            self.refused((*told, "a"))
            self.refused((*told, told[-1]))
            self.refused((*told, ()))

    def test_words_that_are_none(self):
        for told, _, _, _, _ in ROWS:
            for word in ["", "PLAIN", "not", "two", "node", "equation", "a", None, True, 0, 1, ["plain"], (told[0],)]:
                self.refused((word, *told[1:]))

    def test_words_of_other_kinds(self):
        self.refused(("before", "x", "a", "c"))
        self.refused(("hold", "x", "a", "c"))
        self.refused(("like", "x", "a", "c"))
        self.refused(("when", "x", 1, "a"))
        self.refused(("plain", "x", 1, "a"))
        self.refused(("same", "x", 1, "a"))
        self.refused(("call", "x", 1, "a"))
        self.refused(("plain", ("a", "b")))
        self.refused(("like", ("x",), "n", ("a",)))

    def test_no_pointed_names(self):
        for thing in [*no_texts(), *wild_texts(), "true", "mod", "a.node", EIGHTY + "."]:
            for told in [
                ("plain", thing, A), ("before", thing, 1, "a"), ("before", "x", 1, thing), ("when", thing, "a", "c"),
                ("when", "x", thing, "c"), ("when", "x", "a", thing), ("hold", thing, 1, "a"),
                ("hold", "x", 1, thing), ("like", thing, 1, "a"), ("like", "x", 1, thing), ("same", (thing, "a")),
                ("same", ("a", thing)), ("same", ("a", "b", thing)), ("call", (thing,), "n", ("a",)),
                ("call", ("x", thing), "n", ("a",)), ("call", ("x",), "n", (thing,)),
                ("call", ("x",), "n", ("a", thing)), ("call", ("x",), thing, ("a",)),
            ]:
                self.refused(told)

    def test_no_values(self):
        for thing in ["", "1", "true", "a", None, 10 ** 9 + 1, -(10 ** 9) - 1, [1], (1,), ("value", 1), {}]:
            for word in ("before", "hold", "like"):
                self.refused((word, "x", thing, "a"))

    def test_no_terms(self):
        wrong = [
            "a", ["name", "a"], ("name", "A"), ("name",), ("value", "1"), ("two", "?", A, B), ("not", ["name", "a"]),
            ("pick", A, B), equation_of(("plain", "x", A)).term(),
        ]
        for thing in [*no_texts(), *wild_texts(), *wrong]:
            self.refused(("plain", "x", thing))

    def test_terms_of_six_levels(self):
        five = nested(4, A, lambda told: ("not", told))
        self.assert_exact(equation_of(("plain", "x", five)).told(), ("plain", "x", five))
        self.refused(("plain", "x", ("not", five)))

    def test_lists_for_tuples(self):
        self.refused(("same", ["a", "b"]))
        self.refused(("call", ["x"], "n", ("a",)))
        self.refused(("call", ("x",), "n", ["a"]))
        self.refused(("plain", "x", ["name", "a"]))
        self.refused(("same", "ab"))
        self.refused(("call", "x", "n", ("a",)))
        self.refused(("call", ("x",), "n", "a"))
        self.refused(("same", {"a": 1, "b": 2}))

    def test_too_few_names(self):
        self.refused(("same", ()))
        self.refused(("same", ("a",)))
        self.refused(("call", (), "n", ("a",)))
        self.refused(("call", ("x",), "n", ()))

    def test_a_nodes_name_has_no_points(self):
        self.refused(("call", ("x",), "n.m", ("a",)))
        self.refused(("call", ("x",), "node", ("a",)))


class NamesTest(BeatCase):
    def test_names_that_are_told_and_mentioned(self):
        for told, _, tells, names, _ in ROWS:
            equation = equation_of(told)
            self.assert_new_list(equation.tells, tells)
            self.assert_new_list(equation.names, names)
            self.assert_exact(equation.told(), told)

    def test_terms(self):
        for told, kind, _, _, _ in ROWS:
            term = equation_of(told).term()
            if kind is Plain:
                self.assertIsInstance(term, Term)
                self.assert_exact(term.told(), told[2])
            else:
                self.assertIsNone(term)

    def test_calls(self):
        for told, kind, _, _, _ in ROWS:
            self.assertIs(equation_of(told).is_call(), kind is Call)

    def test_words(self):
        for told, _, _, _, words in ROWS:
            self.assertEqual(equation_of(told).words(), words)


class RenamedTest(BeatCase):
    NAMES = {"a": "c", "c": "a", "x": "y.z", "y.z": "x", "b": "b", "n": "m"}
    RENAMED = [
        (("plain", "x", ("two", "+", A, ("name", "c"))), ("plain", "y.z", ("two", "+", ("name", "c"), A))),
        (("plain", "a", ("value", 1)), ("plain", "c", ("value", 1))),
        (("before", "x", True, "a"), ("before", "y.z", True, "c")),
        (("when", "x", "a", "c"), ("when", "y.z", "c", "a")),
        (("hold", "y.z", 1, "c"), ("hold", "x", 1, "a")),
        (("like", "c", False, "y.z"), ("like", "a", False, "x")),
        (("same", ("a", "c", "a", "b")), ("same", ("c", "a", "c", "b"))),
        (("call", ("x", "y.z"), "n", ("c", "a", "c")), ("call", ("y.z", "x"), "n", ("a", "c", "a"))),
        (("call", ("x",), "a", ("a",)), ("call", ("y.z",), "a", ("c",))),
    ]

    def test_names_are_exchanged_at_once(self):
        for told, wanted in self.RENAMED:
            equation = equation_of(told)
            after = equation.renamed(self.NAMES)
            self.assertIs(type(after), type(equation))
            self.assert_exact(after.told(), wanted)
            self.assert_exact(equation.told(), told)

    def test_names_may_come_to_be_alike(self):
        names = {name: "q" for name in self.NAMES}
        for told, wanted in [
            (("plain", "x", A), ("plain", "q", ("name", "q"))), (("before", "x", 1, "a"), ("before", "q", 1, "q")),
            (("when", "x", "a", "c"), ("when", "q", "q", "q")), (("hold", "x", 1, "a"), ("hold", "q", 1, "q")),
            (("like", "x", 1, "a"), ("like", "q", 1, "q")), (("same", ("a", "c")), ("same", ("q", "q"))),
            (("call", ("x", "b"), "n", ("a", "c")), ("call", ("q", "q"), "n", ("q", "q"))),
        ]:
            self.assert_exact(equation_of(told).renamed(names).told(), wanted)

    def test_first_name_that_lacks(self):
        for told, order in [
            (("plain", "x", ("two", "+", B, A)), ["x", "b", "a"]), (("before", "x", 1, "a"), ["x", "a"]),
            (("when", "x", "c", "a"), ["x", "c", "a"]), (("hold", "x", 1, "a"), ["x", "a"]),
            (("like", "x", 1, "a"), ["x", "a"]), (("same", ("c", "a", "b")), ["c", "a", "b"]),
            (("call", ("y", "x"), "n", ("c", "a")), ["y", "x", "c", "a"]),
        ]:
            equation = equation_of(told)
            for many in range(len(order)):
                names = {name: "q" for name in order[:many]}
                self.assert_refused(NoName, {"found": order[many]}, equation.renamed, names)
                names = {name: "q" for name in order if name != order[many]}
                self.assert_refused(NoName, {"found": order[many]}, equation.renamed, names)
                for thing in [None, 1, "Q", ["q"], ""]:
                    names = {name: "q" for name in order[:many]}
                    names[order[many]] = thing
                    self.assertIs(self.refusal(NoName, equation.renamed, names).found, thing)
            self.assert_exact(equation.told(), told)

    def test_what_is_no_pointed_name(self):
        for thing in [*no_texts(), *wild_texts(), "true"]:
            for told in [
                ("plain", "x", A), ("before", "x", 1, "a"), ("when", "x", "a", "a"), ("when", "x", "x", "a"),
                ("hold", "x", 1, "a"), ("like", "x", 1, "a"), ("same", ("x", "a")), ("call", ("x",), "n", ("a",)),
            ]:
                for names in [{"x": thing, "a": "A"}, {"x": "y", "a": thing}]:
                    self.assertIs(self.refusal(NoName, equation_of(told).renamed, names).found, thing)

    def test_what_the_dict_has_for_other_names_is_not_looked_at(self):
        names = {"x": "y", "a": "b", "q": 1, 5: [], "n": "N"}
        self.assertEqual(equation_of(("call", ("x",), "n", ("a",))).renamed(names).words(), "y = call n b")
        self.assertEqual(equation_of(("plain", "x", A)).renamed(names).words(), "y = b")

    def test_dict_stays_and_is_not_kept(self):
        names = {"x": "y", "a": "b"}
        after = equation_of(("plain", "x", A)).renamed(names)
        self.assertEqual(names, {"x": "y", "a": "b"})
        names["a"] = "c"
        self.assertEqual(after.words(), "y = b")


if __name__ == "__main__":
    unittest.main()
