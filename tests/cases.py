"""What the tests share: a case that looks at refusals, and things of every kind."""

import inspect
import unittest

from beatrows.equations import equation_of
from beatrows.errors import BeatError, NoName, NoText
from beatrows.nodes import Node
from beatrows.terms import Name, Not, Pick, Two, Value


class BeatCase(unittest.TestCase):
    def refusal(self, kind, call, *given):
        """The refusal that a call raises, which must be of just this class."""
        with self.assertRaises(BeatError) as caught:
            call(*given)
        self.assertIs(type(caught.exception), kind)
        return caught.exception

    def assert_refused(self, kind, fields, call, *given):
        """A refusal with these fields, each the very thing or an equal text or number."""
        refusal = self.refusal(kind, call, *given)
        self.assertEqual(list(vars(refusal)), list(fields))
        for field, thing in fields.items():
            self.assert_exact(vars(refusal)[field], thing)

    def assert_exact(self, found, wanted):
        """Equal, and of one kind throughout: True is no 1, a list no tuple."""
        if found is not wanted:
            self.assertEqual(repr(found), repr(wanted))
            self.assertEqual(found, wanted)

    def assert_own_methods(self, kind, methods):
        """The class defines each method in its own body, with just these parameters behind self."""
        for method, wanted in methods.items():
            self.assertIn(method, vars(kind), kind)
            taken = inspect.getfullargspec(vars(kind)[method])
            self.assertEqual(taken, (["self", *wanted], None, None, None, [], None, {}), f"{kind} {method}")

    def assert_new_list(self, tell, wanted):
        """A list that is told anew each time."""
        told = tell()
        self.assertIs(type(told), list)
        self.assertEqual(told, wanted)
        told.append("more")
        told.reverse()
        self.assertEqual(tell(), wanted)


def nested(many, inner, wrap):
    thing = inner
    for _ in range(many):
        thing = wrap(thing)
    return thing


def no_texts():
    """Things that are no texts, and of no use but to be refused."""
    return [
        None, True, False, 0, 1, -1, 7, 10 ** 9 + 1, -(10 ** 60 - 1), 10 ** 60 - 1,
        [], ["a"], [[]], (), ("a",), ("name",), ((),), {}, {"a": 1}, {1: {}}, {("a",): ["b"]},
        BeatError("text"), NoName(["a"]), NoText(0),
        Name("a"), Value(1), Not(Name("a")), Two("+", Name("a"), Value(1)),
        Pick(Name("a"), Value(1), Value(2)),
        equation_of(("like", "x", 1, "a")), equation_of(("same", ("a", "b"))),
        Node("n", ["a"], ["x"], [("like", "x", 1, "a")]),
        nested(20, "a", lambda thing: [thing]),
        nested(20, "a", lambda thing: (thing,)),
        nested(20, "a", lambda thing: {"a": thing}),
        nested(20, ("name", "a"), lambda thing: ("not", thing)),
        nested(20, ("name", "a"), lambda thing: ("pick", thing, thing, thing)),
        nested(20, ("name", "a"), lambda thing: ("two", "+", thing, thing)),
    ]


def wild_texts():
    """Texts that are no names, no values, no terms and no rows."""
    return [
        "", " ", "\n", ".", "..", "a.", ".a", "a..b", "A", "aB", "a1", "a_b", "a b", "a\n",
        "abcdefghi", "node", "mod", "beat.a", "-", "--1", "+1", "-0", "00", "07", "1.0", "1 ",
        "true ", "True", "None", "1000000001", "9" * 20000, "a" * 20000, "." * 20000, " " * 20000,
    ]
