import unittest

from beatrows import terms
from beatrows.errors import NoName, NoTerm, NoValue
from beatrows.sums import ops_told
from beatrows.terms import Name, Not, Pick, Term, Two, Value, term_of

from cases import BeatCase, nested, no_texts, wild_texts

METHODS = {"names": [], "levels": [], "reckoned_by": ["values"], "renamed": ["names"], "told": [], "words": []}


def of_levels(many):
    return nested(many - 1, Name("a"), Not)


class MadeTest(BeatCase):
    def test_kinds_stand_straight_under_term(self):
        for kind in (Name, Value, Two, Not, Pick):
            self.assertEqual(kind.__bases__, (Term,))
        self.assertEqual(len(Term.__subclasses__()), 5)
        self.assertEqual(terms.term_of.__module__, "beatrows.terms")

    def test_term_and_the_kinds_under_it_define_each_method_in_their_own_body(self):
        for kind in (Term, Name, Value, Two, Not, Pick):
            self.assert_own_methods(kind, METHODS)

    def test_no_names(self):
        for thing in [*no_texts(), *wild_texts(), *"before when true".split()]:
            self.assert_refused(NoName, {"found": thing}, Name, thing)

    def test_no_values(self):
        for thing in [*no_texts(), *wild_texts(), "a", "1", "true", 10 ** 9 + 1, -(10 ** 9) - 1]:
            if not isinstance(thing, bool) and thing not in (0, 1, -1, 7):
                self.assert_refused(NoValue, {"found": thing}, Value, thing)

    def test_names_may_have_points(self):
        self.assertEqual(Name("a.b.c").told(), ("name", "a.b.c"))

    def test_no_operators(self):
        a = Name("a")
        for thing in [*no_texts(), "", "!", "?", "%", ">", "==", "Mod", "and", "+ ", "a", "true"]:
            self.assert_refused(NoTerm, {"found": thing}, Two, thing, a, a)

    def test_all_operators(self):
        for op in ops_told():
            self.assertEqual(Two(op, Name("a"), Value(1)).words(), f"( a {op} 1 )")

    def test_no_terms_within(self):
        a = Name("a")
        things = [*no_texts(), *wild_texts(), "a", ("name", "a"), a.told(), of_levels(5)]
        for thing in things:
            if isinstance(thing, Term) and thing.levels() < 5:
                continue
            for call, given in [
                (Two, ("+", thing, a)), (Two, ("+", a, thing)), (Not, (thing,)),
                (Pick, (thing, a, a)), (Pick, (a, thing, a)), (Pick, (a, a, thing)),
            ]:
                self.assert_refused(NoTerm, {"found": thing}, call, *given)

    def test_operator_is_looked_at_ahead_of_the_parts_in_their_order(self):
        a = Name("a")
        one, other, by, op = [1], [2], [3], ["+"]
        self.assertIs(self.refusal(NoTerm, Two, op, one, other).found, op)
        self.assertIs(self.refusal(NoTerm, Two, "+", one, other).found, one)
        self.assertIs(self.refusal(NoTerm, Two, "+", a, other).found, other)
        self.assertIs(self.refusal(NoTerm, Pick, by, one, other).found, by)
        self.assertIs(self.refusal(NoTerm, Pick, a, one, other).found, one)
        self.assertIs(self.refusal(NoTerm, Pick, a, a, other).found, other)
        self.assertIs(self.refusal(NoTerm, Not, one).found, one)

    def test_a_high_term_and_no_term_are_refused_in_their_order(self):
        high, thing = of_levels(5), [1]
        self.assertIs(self.refusal(NoTerm, Two, "+", high, thing).found, high)
        self.assertIs(self.refusal(NoTerm, Two, "+", thing, high).found, thing)
        self.assertIs(self.refusal(NoTerm, Pick, high, thing, thing).found, high)
        self.assertIs(self.refusal(NoTerm, Two, "?", high, high).found, "?")

    def test_five_levels_stand_alone_and_four_within(self):
        a, four, five = Name("a"), of_levels(4), of_levels(5)
        self.assertEqual(five.levels(), 5)
        for call, given in [
            (Two, ("+", four, a)), (Two, ("+", a, four)), (Not, (four,)),
            (Pick, (four, a, a)), (Pick, (a, four, a)), (Pick, (a, a, four)),
        ]:
            made = call(*given)
            self.assertEqual(made.levels(), 5)
            self.assert_refused(NoTerm, {"found": made}, Not, made)


class NamesTest(BeatCase):
    def test_names_by_their_first_places_each_once(self):
        a, b, c = Name("a"), Name("b"), Name("c.d")
        for term, wanted in [
            (a, ["a"]), (c, ["c.d"]), (Value(1), []), (Value(True), []),
            (Two("+", b, a), ["b", "a"]), (Two("+", a, a), ["a"]), (Two("+", Value(1), a), ["a"]),
            (Not(b), ["b"]), (Not(Value(False)), []),
            (Pick(c, b, a), ["c.d", "b", "a"]), (Pick(a, b, a), ["a", "b"]), (Pick(a, a, b), ["a", "b"]),
            (Two("+", Pick(b, Two("*", c, b), a), Not(Two("<", a, Name("d")))), ["b", "c.d", "a", "d"]),
        ]:
            self.assert_new_list(term.names, wanted)

    def test_levels_of_each_kind(self):
        a, two, four = Name("a"), of_levels(2), of_levels(4)
        for term, wanted in [
            (a, 1), (Name("a.b"), 1), (Value(1), 1), (Value(False), 1), (two, 2),
            (Two("+", a, a), 2), (Two("+", two, a), 3), (Two("+", a, four), 5), (Two("+", four, two), 5),
            (Not(two), 3), (Pick(a, a, a), 2), (Pick(two, a, a), 3), (Pick(a, two, a), 3), (Pick(a, a, two), 3),
            (Pick(two, a, of_levels(3)), 4),
        ]:
            self.assert_exact(term.levels(), wanted)


class ReckonedTest(BeatCase):
    ROW = {"a": 7, "b": -2, "t": True, "f": False, "z": 0, "top": 10 ** 9, "a.b": 3}

    def reckon(self, term):
        """What comes of the term, and the names in the order in which they were asked for."""
        asked = []

        def values(name):
            asked.append(name)
            return self.ROW[name]

        return term.reckoned_by(values), asked

    def check(self, term, wanted, names):
        came, asked = self.reckon(term)
        self.assert_exact(came, wanted)
        self.assertEqual(asked, names)

    def test_names_and_values(self):
        self.check(Name("a"), (7, None), ["a"])
        self.check(Name("a.b"), (3, None), ["a.b"])
        self.check(Name("t"), (True, None), ["t"])
        self.check(Name("f"), (False, None), ["f"])
        for value in (0, 1, -1, True, False, 10 ** 9):
            self.check(Value(value), (value, None), [])

    def test_two(self):
        a, b, t = Name("a"), Name("b"), Name("t")
        self.check(Two("/", a, b), (-4, None), ["a", "b"])
        self.check(Two("mod", b, a), (5, None), ["b", "a"])
        self.check(Two("<", b, Value(0)), (True, None), ["b"])
        self.check(Two("=", t, Value(1)), (None, "kind"), ["t"])
        self.check(Two("/", a, Name("z")), (None, "nought"), ["a", "z"])
        self.check(Two("*", Name("top"), a), (None, "great"), ["top", "a"])

    def test_first_fault_ends_it(self):
        a, b, t, z = Name("a"), Name("b"), Name("t"), Name("z")
        nought, kind = Two("/", a, z), Two("+", t, b)
        self.check(Two("+", nought, kind), (None, "nought"), ["a", "z"])
        self.check(Two("+", kind, nought), (None, "kind"), ["t", "b"])
        self.check(Two("+", b, nought), (None, "nought"), ["b", "a", "z"])
        self.check(Not(nought), (None, "nought"), ["a", "z"])
        self.check(Pick(nought, kind, b), (None, "nought"), ["a", "z"])
        self.check(Pick(t, kind, nought), (None, "kind"), ["t", "t", "b"])
        self.check(Pick(t, b, nought), (None, "nought"), ["t", "b", "a", "z"])

    def test_both_parts_of_and_and_or_are_reckoned(self):
        t, f, nought = Name("t"), Name("f"), Two("/", Name("a"), Name("z"))
        self.check(Two("&", f, t), (False, None), ["f", "t"])
        self.check(Two("|", t, f), (True, None), ["t", "f"])
        self.check(Two("&", f, Two("=", nought, Value(1))), (None, "nought"), ["f", "a", "z"])
        self.check(Two("|", t, Two("=", nought, Value(1))), (None, "nought"), ["t", "a", "z"])
        self.check(Two("|", t, Name("a")), (None, "kind"), ["t", "a"])
        self.check(Two("&", f, Name("a")), (None, "kind"), ["f", "a"])

    def test_not(self):
        self.check(Not(Name("t")), (False, None), ["t"])
        self.check(Not(Name("f")), (True, None), ["f"])
        self.check(Not(Name("a")), (None, "kind"), ["a"])
        self.check(Not(Value(0)), (None, "kind"), [])

    def test_pick(self):
        a, b, t, f = Name("a"), Name("b"), Name("t"), Name("f")
        self.check(Pick(t, a, b), (7, None), ["t", "a", "b"])
        self.check(Pick(f, a, b), (-2, None), ["f", "a", "b"])
        self.check(Pick(t, f, a), (False, None), ["t", "f", "a"])
        self.check(Pick(f, a, t), (True, None), ["f", "a", "t"])

    def test_both_sides_of_a_pick_are_reckoned(self):
        nought = Two("/", Name("a"), Name("z"))
        self.check(Pick(Name("t"), Value(1), nought), (None, "nought"), ["t", "a", "z"])
        self.check(Pick(Name("f"), nought, Value(1)), (None, "nought"), ["f", "a", "z"])

    def test_pick_by_a_number(self):
        a, b = Name("a"), Name("b")
        self.check(Pick(a, b, b), (None, "kind"), ["a", "b", "b"])
        self.check(Pick(Value(1), a, b), (None, "kind"), ["a", "b"])
        self.check(Pick(Value(0), a, b), (None, "kind"), ["a", "b"])
        self.check(Pick(Value(1), a, Two("/", b, Name("z"))), (None, "nought"), ["a", "b", "z"])

    def test_faults_within_are_told_outside(self):
        nought = Two("/", Value(1), Value(0))
        self.check(nested(3, nought, lambda term: Two("*", Value(2), term)), (None, "nought"), [])
        self.check(Pick(Not(nought), Value(1), Value(2)), (None, "nought"), [])


class RenamedTest(BeatCase):
    def term(self):
        return Pick(Two("<", Name("a"), Name("b")), Not(Name("c.d")), Two("+", Name("b"), Value(3)))

    def test_names_are_exchanged(self):
        names = {"a": "x", "b": "y.z", "c.d": "w"}
        self.assertEqual(self.term().renamed(names).words(), "( ( x < y.z ) ? ( ! w ) : ( y.z + 3 ) )")
        self.assertEqual(Name("a").renamed({"a": "b.c"}).told(), ("name", "b.c"))
        self.assert_exact(Value(True).renamed({}).told(), ("value", True))

    def test_names_are_exchanged_with_one_another_at_once(self):
        names = {"a": "b", "b": "c.d", "c.d": "a"}
        self.assertEqual(self.term().renamed(names).words(), "( ( b < c.d ) ? ( ! a ) : ( c.d + 3 ) )")

    def test_names_may_come_to_be_alike(self):
        names = {"a": "x", "b": "x", "c.d": "x"}
        self.assertEqual(self.term().renamed(names).names(), ["x"])

    def test_what_the_dict_has_for_other_names_is_not_looked_at(self):
        names = {"q": 7, 5: None, "a": "x", "b": "y", "c.d": "z", "node": []}
        self.assertEqual(self.term().renamed(names).names(), ["x", "y", "z"])

    def test_first_name_that_the_dict_lacks(self):
        for names, found in [
            ({}, "a"), ({"a": "x"}, "b"), ({"a": "x", "b": "y"}, "c.d"), ({"b": "y", "c.d": "z"}, "a"),
            ({"x": "a"}, "a"),
        ]:
            self.assert_refused(NoName, {"found": found}, self.term().renamed, names)

    def test_what_is_no_pointed_name(self):
        for thing in [*no_texts(), *wild_texts(), "true"]:
            self.assert_refused(NoName, {"found": thing}, self.term().renamed, {"a": thing})
            names = {"a": "x", "b": thing, "c.d": "Z"}
            self.assert_refused(NoName, {"found": thing}, self.term().renamed, names)
            names = {"a": "x", "b": "y", "c.d": thing}
            self.assert_refused(NoName, {"found": thing}, self.term().renamed, names)
            self.assert_refused(NoName, {"found": thing}, Name("a").renamed, {"a": thing})

    def test_dict_and_first_term_stay(self):
        term, names = self.term(), {"a": "x", "b": "y", "c.d": "z"}
        told = term.told()
        after = term.renamed(names)
        self.assertEqual(term.told(), told)
        self.assertEqual(names, {"a": "x", "b": "y", "c.d": "z"})
        names["a"] = "b"
        self.assertEqual(after.names(), ["x", "y", "z"])
        self.refusal(NoName, term.renamed, {})
        self.assertEqual(term.told(), told)


class ToldTest(BeatCase):
    TOLD = [
        ("name", "a"), ("name", "a.b"), ("value", 0), ("value", 1), ("value", True), ("value", False),
        ("value", -(10 ** 9)), ("two", "+", ("name", "a"), ("value", 1)),
        ("two", "mod", ("value", True), ("not", ("name", "c"))), ("not", ("name", "a")),
        ("not", ("value", 1)), ("pick", ("name", "a"), ("value", 1), ("value", True)),
        ("pick", ("not", ("name", "a")), ("two", "&", ("name", "b"), ("name", "b")), ("name", "c.d")),
        nested(4, ("name", "a"), lambda told: ("not", told)),
        nested(4, ("value", 3), lambda told: ("two", "*", told, told)),
        nested(4, ("name", "a"), lambda told: ("pick", told, told, told)),
    ]

    def test_told_and_made_again(self):
        for told in self.TOLD:
            term = term_of(told)
            self.assert_exact(term.told(), told)
            self.assert_exact(term_of(term.told()).told(), told)

    def test_each_kind_is_made_by_its_class(self):
        a, one = Name("a"), Value(1)
        for term, told in [
            (a, ("name", "a")), (one, ("value", 1)), (Value(True), ("value", True)),
            (Two("-", a, one), ("two", "-", ("name", "a"), ("value", 1))), (Not(a), ("not", ("name", "a"))),
            (Pick(one, a, Not(a)), ("pick", ("value", 1), ("name", "a"), ("not", ("name", "a")))),
        ]:
            self.assert_exact(term.told(), told)
            self.assertIs(type(term_of(told)), type(term))

    def test_a_truth_is_no_number(self):
        self.assert_exact(term_of(("value", True)).told(), ("value", True))
        self.assert_exact(term_of(("value", 1)).told(), ("value", 1))
        self.assert_exact(term_of(("value", False)).told(), ("value", False))
        self.assert_exact(term_of(("value", 0)).told(), ("value", 0))

    def test_things_that_tell_no_term(self):
        good = ("name", "a")
        wrong = [
            *no_texts(), *wild_texts(), "a", "name", (None,), ("a",), ("a", "b"), ("name",), ("name", "A"),
            ("name", "true"), ("name", 1), ("name", ["a"]), ("name", good), ("name", "a", "b"), ["name", "a"],
            ("value",), ("value", "1"), ("value", None), ("value", 10 ** 9 + 1), ("value", 1, 2), ("value", good),
            ["value", 1], ("two",), ("two", "+"), ("two", "+", good), ("two", "+", good, good, good),
            ("two", "?", good, good), ("two", ["+"], good, good), ("two", good, "+", good), ("two", "+", "a", good),
            ("two", "+", good, ["name", "a"]), ("two", "+", good, 1), ["two", "+", good, good],
            ("not",), ("not", good, good), ("not", "a"), ("not", 1), ("not", ["name", "a"]), ["not", good],
            ("pick", good, good), ("pick", good, good, good, good), ("pick", good, good, "a"),
            ("pick", "a", good, good), ("pick", good, 1, good), ["pick", good, good, good],
            ("Name", "a"), ("NAME", "a"), ("plain", "a", good), (1, good), (["name"], "a"), (("name",), "a"),
            Name("a"), ("not", Name("a")), ("two", "+", Name("a"), good), {"name": "a"},
        ]
        for thing in wrong:
            self.assert_refused(NoTerm, {"found": thing}, term_of, thing)
            self.assertIs(self.refusal(NoTerm, term_of, thing).found, thing)

    def test_one_wrong_thing_deep_within_refuses_the_whole(self):
        good = ("name", "a")
        for inner in [("name", "A"), ("value", "a"), ["name", "a"], ("two", "?", good, good), (), None, ("not",)]:
            for wrap in (
                lambda told: ("not", told),
                lambda told: ("two", "+", told, good), lambda told: ("two", "+", good, told),
                lambda told: ("pick", told, good, good), lambda told: ("pick", good, told, good),
                lambda told: ("pick", good, good, told),
            ):
                for many in (1, 2, 3):
                    thing = nested(many, inner, wrap)
                    self.assertIs(self.refusal(NoTerm, term_of, thing).found, thing)

    def test_six_levels(self):
        good = ("name", "a")
        for wrap in (
            lambda told: ("not", told), lambda told: ("two", "+", told, good), lambda told: ("two", "+", good, told),
            lambda told: ("pick", told, good, good), lambda told: ("pick", good, told, good),
            lambda told: ("pick", good, good, told),
        ):
            five, six = nested(4, good, wrap), nested(5, good, wrap)
            self.assertEqual(term_of(five).levels(), 5)
            self.assertIs(self.refusal(NoTerm, term_of, six).found, six)


class WordsTest(BeatCase):
    def test_each_kind(self):
        a, c = Name("a"), Name("c")
        for term, words in [
            (a, "a"), (Name("a.b.c"), "a.b.c"), (Value(0), "0"), (Value(-3), "-3"), (Value(10 ** 9), "1000000000"),
            (Value(True), "true"), (Value(False), "false"), (Value(1), "1"),
            (Two("+", a, Value(-3)), "( a + -3 )"), (Two("mod", Name("x.y"), c), "( x.y mod c )"),
            (Two("-", Value(-1), Value(-2)), "( -1 - -2 )"), (Not(c), "( ! c )"), (Not(Value(True)), "( ! true )"),
            (Pick(c, a, Value(False)), "( c ? a : false )"),
            (Pick(Not(c), Name("x"), Two("+", Name("x"), Value(1))), "( ( ! c ) ? x : ( x + 1 ) )"),
            (Not(Two("&", Pick(a, c, a), Not(c))), "( ! ( ( a ? c : a ) & ( ! c ) ) )"),
        ]:
            self.assertEqual(term.words(), words)


if __name__ == "__main__":
    unittest.main()
