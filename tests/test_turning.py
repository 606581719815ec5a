import random
import unittest

from beatrows.errors import NoCall, NoOrder, Unknown
from beatrows.programs import Program, read_program, show_program
from beatrows.turning import nodes_turned, same_but_order, turned

from cases import BeatCase, no_texts, sound_program, wild_texts

TEXT = """node low in a c out x
x = a when c
p = before 1 a
q = ( p + 1 )
node mid in a out x
x = call low a a
node top in r s out t
t = call mid r
same r s
y = call low r s"""


def program(*changes):
    text = TEXT
    for old, new in changes:
        if text.count(old) != 1:
            raise AssertionError(old)
        text = text.replace(old, new)
    return read_program(text)


class TurnedTest(BeatCase):
    def test_the_row_at_place_i_is_the_one_that_was_at_places_i(self):
        for places in ([2, 0, 1], (2, 0, 1)):
            self.assertEqual(show_program(turned(program(), "low", places)), show_program(program(
                ("x = a when c\np = before 1 a\nq = ( p + 1 )", "q = ( p + 1 )\nx = a when c\np = before 1 a"))))
            self.assertEqual(show_program(turned(program(), "top", places)), show_program(program(
                ("t = call mid r\nsame r s\ny = call low r s", "y = call low r s\nt = call mid r\nsame r s"))))
        self.assertEqual(show_program(turned(program(), "mid", [0])), TEXT)
        self.assertEqual(show_program(turned(program(), "top", [0, 1, 2])), TEXT)

    def test_unknown_ahead_of_no_order(self):
        for thing in [*no_texts(), *wild_texts(), "x", "Low", ["low"], "low.x"]:
            for places in ([0], [0, 1, 2], None, [3]):
                self.assert_refused(Unknown, {"name": thing}, turned, program(), thing, places)

    def test_no_order(self):
        wrong = [
            [], [0, 1], [0, 1, 2, 3], [0, 0, 1], [0, 1, 1], [2, 2, 2], [0, 1, 3], [1, 2, 3], [-1, 0, 1], [0, 1, -1],
            [0, 1, True], [False, 1, 2], [0, True, 2], [0, 1, "2"], [0, 1, None], [0, 1, [2]], [0, 1, (2,)], [0, 1, {}],
            (0, 1), (0, 1, 2, 2), (True, False, 2), "012", {0: 0, 1: 1, 2: 2}, [[0, 1, 2]], [0, 1, 10 ** 59], 3,
            range(3),
        ]
        for thing in [*no_texts(), *wild_texts(), *wrong]:
            for name in ("low", "top"):
                self.assert_refused(NoOrder, {"found": thing}, turned, program(), name, thing)
            self.assert_refused(NoOrder, {"found": thing}, nodes_turned, program(), thing)

    def test_truths_are_no_places(self):
        for thing in ([False], [True], (False,)):
            self.assert_refused(NoOrder, {"found": thing}, turned, program(), "mid", thing)
        self.assert_refused(NoOrder, {"found": [False, True]}, nodes_turned,
                            read_program("\n".join(TEXT.split("\n")[:6])), [False, True])

    def test_what_is_handed_in_stays(self):
        made, places = program(), [2, 0, 1]
        turned(made, "low", places)
        nodes_turned(program(), [0, 1, 2])
        self.assertEqual((places, show_program(made)), ([2, 0, 1], TEXT))


class NodesTest(BeatCase):
    TEXTS = ["node d in a out x\nx = a", "node e in a out x\nx = ( a + 1 )", "node f in a out x\nx = call d a"]
    FREE = "\n".join(TEXTS)

    def test_turned(self):
        one, two, three = self.TEXTS
        made = read_program(self.FREE)
        for places, wanted in [
            ([1, 0, 2], [two, one, three]), ((0, 2, 1), [one, three, two]), ([0, 1, 2], [one, two, three]),
        ]:
            self.assertEqual(show_program(nodes_turned(made, places)), "\n".join(wanted))

    def test_no_call_of_the_first_called_node_that_stands_behind(self):
        made = read_program(self.FREE)
        for places in ([2, 0, 1], [2, 1, 0], (1, 2, 0)):
            self.assert_refused(NoCall, {"name": "d"}, nodes_turned, made, places)
        for places, name in [([2, 1, 0], "mid"), ([1, 0, 2], "low"), ([0, 2, 1], "mid"), ([1, 2, 0], "low"),
                             ([2, 0, 1], "mid")]:
            self.assert_refused(NoCall, {"name": name}, nodes_turned, program(), places)
        made = program(("t = call mid r\nsame r s\ny = call low r s", "y = call low r s\nsame r s\nt = call mid r"))
        self.assert_refused(NoCall, {"name": "low"}, nodes_turned, made, [2, 1, 0])

    def test_no_order_ahead_of_no_call(self):
        self.assert_refused(NoOrder, {"found": [2, 1, True]}, nodes_turned, program(), [2, 1, True])


class SameTest(BeatCase):
    def same(self, wanted, one, other):
        self.assertIs(same_but_order(one, other), wanted)
        self.assertIs(same_but_order(other, one), wanted)

    def test_orders_of_rows_and_of_nodes(self):
        made = program()
        self.same(True, made, program())
        self.same(True, made, turned(made, "low", [1, 2, 0]))
        self.same(True, turned(turned(made, "top", [1, 2, 0]), "low", [2, 1, 0]), made)
        free = read_program(NodesTest.FREE)
        self.same(True, free, nodes_turned(free, [0, 2, 1]))

    def test_a_row_more_often(self):
        for one, other in [("same r s", "same r s\nsame r s"), ("same r s", "same r s\nsame s r")]:
            self.same(False, program(), program((one, other)))
        one = program(("same r s", "same r s\nsame r s\nsame s r"))
        self.same(False, one, program(("same r s", "same r s\nsame s r\nsame s r")))
        self.same(True, one, program(("same r s", "same s r\nsame r s\nsame r s")))

    def test_a_truth_is_no_number(self):
        self.same(False, program(), program(("before 1 a", "before true a")))
        self.same(False, program(("p + 1", "p + 0")), program(("p + 1", "p + false")))

    def test_other_rows_inputs_outs_and_names(self):
        for change in [
            ("in a c out x", "in c a out x"), ("t = call mid r", "t = call mid s"), ("q = ( p + 1 )", "q = ( 1 + p )"),
            ("out t", "out y"), ("same r s", "same s r"), ("before 1 a", "before 2 a"),
            ("y = call low r s", "y = call low s r"),
            ("y = call low r s", "y = call low r s\nz = r"), ("node top in r s", "node up in r s"),
            ("in r s", "in r s z"), ("out t", "out t y"), ("\nq = ( p + 1 )", ""),
        ]:
            self.same(False, program(), program(change))
        self.same(False, program(("out t", "out t y")), program(("out t", "out y t")))

    def test_nodes_more_and_fewer_and_of_other_names(self):
        nodes = [program().named(name) for name in ("low", "mid", "top")]
        self.same(False, program(), Program(nodes[:2]))
        other = read_program(TEXT.replace("mid", "other"))
        self.same(False, program(), other)
        one = read_program("node d in a out x\nx = a\nnode e in b out x\nx = b")
        self.same(True, one, read_program("node e in b out x\nx = b\nnode d in a out x\nx = a"))
        self.same(False, one, read_program("node e in a out x\nx = a\nnode d in b out x\nx = b"))

    def test_by_chance(self):
        chance = random.Random(115)
        for _ in range(40):
            made, _ = sound_program(chance, chance.randint(1, 4), 8)
            other = made
            for name in made.names():
                many = len(made.named(name).rows())
                other = turned(other, name, chance.sample(range(many), many))
            self.same(True, made, other)


if __name__ == "__main__":
    unittest.main()
