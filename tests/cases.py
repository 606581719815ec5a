"""What the tests share: a case that looks at refusals, and things of every kind."""

import inspect
import unittest

from beatrows.equations import equation_of
from beatrows.errors import BeatError, NoName, NoText
from beatrows.nodes import Node
from beatrows.programs import Program
from beatrows.terms import Name, Not, Pick, Two, Value


class BeatCase(unittest.TestCase):
    def refusal(self, kind, call, *given):
        """The refusal that a call raises, which must be of just this class."""
        with self.assertRaises(BeatError) as caught:
            call(*given)
        self.assertIs(type(caught.exception), kind)
        return caught.exception

    def assert_refused(self, kind, fields, call, *given):
        """A refusal with these fields, each the very thing or an equal text or number."""
        refusal = self.refusal(kind, call, *given)
        self.assertEqual(list(vars(refusal)), list(fields))
        for field, thing in fields.items():
            self.assert_exact(vars(refusal)[field], thing)

    def assert_exact(self, found, wanted):
        """Equal, and of one kind throughout: True is no 1, a list no tuple."""
        if found is not wanted:
            self.assertEqual(repr(found), repr(wanted))
            self.assertEqual(found, wanted)

    def assert_own_methods(self, kind, methods):
        """The class defines each method in its own body, with just these parameters behind self."""
        for method, wanted in methods.items():
            self.assertIn(method, vars(kind), kind)
            taken = inspect.getfullargspec(vars(kind)[method])
            self.assertEqual(taken, (["self", *wanted], None, None, None, [], None, {}), f"{kind} {method}")

    def assert_new_list(self, tell, wanted):
        """A list that is told anew each time."""
        told = tell()
        self.assertIs(type(told), list)
        self.assertEqual(told, wanted)
        told.append("more")
        told.reverse()
        self.assertEqual(tell(), wanted)


def nested(many, inner, wrap):
    thing = inner
    for _ in range(many):
        thing = wrap(thing)
    return thing


def no_texts():
    """Things that are no texts, and of no use but to be refused."""
    return [
        None, True, False, 0, 1, -1, 7, 10 ** 9 + 1, -(10 ** 60 - 1), 10 ** 60 - 1,
        [], ["a"], [[]], (), ("a",), ("name",), ((),), {}, {"a": 1}, {1: {}}, {("a",): ["b"]},
        BeatError("text"), NoName(["a"]), NoText(0),
        Name("a"), Value(1), Not(Name("a")), Two("+", Name("a"), Value(1)),
        Pick(Name("a"), Value(1), Value(2)),
        equation_of(("like", "x", 1, "a")), equation_of(("same", ("a", "b"))),
        Node("n", ["a"], ["x"], [("like", "x", 1, "a")]),
        Program([Node("n", ["a"], ["x"], [("like", "x", 1, "a")])]),
        nested(20, "a", lambda thing: [thing]),
        nested(20, "a", lambda thing: (thing,)),
        nested(20, "a", lambda thing: {"a": thing}),
        nested(20, ("name", "a"), lambda thing: ("not", thing)),
        nested(20, ("name", "a"), lambda thing: ("pick", thing, thing, thing)),
        nested(20, ("name", "a"), lambda thing: ("two", "+", thing, thing)),
    ]


def wild_texts():
    """Texts that are no names, no values, no terms and no rows."""
    return [
        "", " ", "\n", ".", "..", "a.", ".a", "a..b", "A", "aB", "a1", "a_b", "a b", "a\n",
        "abcdefghi", "node", "mod", "beat.a", "-", "--1", "+1", "-0", "00", "07", "1.0", "1 ",
        "true ", "True", "None", "1000000001", "9" * 20000, "a" * 20000, "." * 20000, " " * 20000,
    ]


def some_node(chance, many, kinds=("plain", "plain", "before", "when", "hold", "like", "same")):
    """A node of rows of these kinds, by chance; whether it has clocks and an order is another question."""
    inputs = ["a", "b", "c"][:chance.randint(1, 3)]
    told = [f"{'pqrstuvw'[at // 8]}{'pqrstuvw'[at % 8]}" for at in range(many)]
    rows = []
    for at, name in enumerate(told):
        # Mostly names told ahead, so that clocks follow and few rings come.
        near = [*inputs, *inputs, *told[:at]] if chance.random() < 0.85 else [*inputs, *told]
        kind = chance.choice(kinds)
        while kind == "same":
            rows.append(("same", tuple(chance.choices([*inputs, *told], k=chance.randint(2, 3)))))
            kind = chance.choice(kinds)
        rows.append(_some_row(chance, kind, name, near))
    chance.shuffle(rows)
    return Node("n", inputs, chance.sample(told, min(many, chance.randint(1, 3))), rows)


def _some_row(chance, kind, name, near):
    one, other = chance.choice(near), chance.choice(near)
    value = chance.choice([0, 1, -3, 7, True, False, 10 ** 9])
    if kind == "plain":
        return ("plain", name, _some_term(chance, one, other, value))
    if kind == "when":
        return ("when", name, one, other)
    return (kind, name, value, one)


def _some_term(chance, one, other, value):
    one, other = ("name", one), ("name", other)
    return chance.choice([
        one, ("two", "<", one, ("value", 2)), ("two", "=", one, one), ("not", ("two", "<", one, ("value", 1))),
        ("two", chance.choice("+-*/<=&|"), one, ("value", value)), ("two", chance.choice("+-*"), one, other),
        ("two", "mod", one, ("value", 3)), ("pick", ("two", "<", one, ("value", 3)), one, ("value", value)),
    ])
