import random
import unittest

from beatrows.clocks import clocks_of
from beatrows.errors import NoName, TooMany, Twice, Unknown
from beatrows.programs import read_program, show_program
from beatrows.renaming import named_clock, named_row, names_behind, renamed
from beatrows.writing import where_from, written_out

from cases import BeatCase, nested, no_texts, other_names, sound_program, wild_texts

TEXT = """node low in a c out x
x = a when c
p = before 1 a
node mid in a b out x y
x = call low a b
y = ( a + ( x = p ) )
p = hold 2 x
same a b
k = true like a
node top in r s out t
t q = call mid r s
y = call low r s"""
NO_NAMES = [*no_texts(), *wild_texts(), "a.b", "in", "abcdefghi", "Low", "x1", ["x"]]
# Keys of dicts, which are no lists and dicts, and no deep tuples, as these would take years to be put in.
KEYS = [
    *wild_texts(), *[thing for thing in no_texts() if not isinstance(thing, (list, dict, tuple))], "a.b", "in", "low.a",
    (), ("a",), ("low", "a"), (("a",), (None, 1)), nested(20, "a", lambda thing: (thing,)),
]


def program():
    return read_program(TEXT)


class RenamedTest(BeatCase):
    def shows(self, wanted, nodes, names):
        made = program()
        self.assertEqual(show_program(renamed(made, nodes, names)).split("\n"), wanted.split("\n"))
        self.assertEqual(show_program(made), TEXT)

    def test_none(self):
        self.shows(TEXT, {}, {})
        self.shows(TEXT, {"low": "low"}, {"mid": {}, "top": {"r": "r"}})

    def test_nodes(self):
        self.shows(TEXT.replace("low", "deep"), {"low": "deep"}, {})
        self.shows(TEXT.replace("low", "z").replace("mid", "low").replace("z", "mid"), {"mid": "low", "low": "mid"}, {})
        self.shows(TEXT.replace("low", "z").replace("mid", "low").replace("top", "mid").replace("z", "top"),
                   {"low": "top", "mid": "low", "top": "mid"}, {})

    def test_names_of_one_node_wherever_they_stand(self):
        low, mid = TEXT.split("\nnode mid")[0], TEXT.split("\nnode mid")[1]
        self.shows("node low in c a out y\ny = c when a\nz = before 1 c\nnode mid" + mid, {},
                   {"low": {"a": "c", "c": "a", "x": "y", "p": "z"}})
        wanted = """
node mid in d b out y x
y = call low d b
x = ( d + ( y = q ) )
q = hold 2 y
same d b
k = true like d
node top in r s out t
t q = call mid r s
y = call low r s"""
        self.shows(low + wanted, {}, {"mid": {"a": "d", "x": "y", "y": "x", "p": "q"}})

    def test_nodes_and_names_at_once(self):
        self.shows("""node mid in a z out x
x = a when z
p = before 1 a
node low in a b out x y
x = call mid a b
y = ( a + ( x = p ) )
p = hold 2 x
same a b
k = true like a
node up in low mid out top
top q = call low low mid
y = call mid low mid""", {"low": "mid", "top": "up", "mid": "low"}, {
            "top": {"r": "low", "s": "mid", "t": "top"}, "low": {"c": "z"},
        })

    def test_refused_for_nodes(self):
        for thing in NO_NAMES:
            if not isinstance(thing, dict):
                for names in ({}, None, {"none": 1}):
                    self.assert_refused(NoName, {"found": thing}, renamed, program(), thing, names)
        for key in [*KEYS, "a", "x"]:
            for other in ("y", "low", "", None):
                self.assert_refused(Unknown, {"name": key}, renamed, program(), {key: other}, None)
                self.assert_refused(Unknown, {"name": key}, renamed, program(), {"mid": "up", key: other, "low": 1},
                                    None)
        for thing in NO_NAMES:
            self.assert_refused(NoName, {"found": thing}, renamed, program(), {"low": thing}, None)
            self.assert_refused(NoName, {"found": thing}, renamed, program(), {"mid": "low", "low": thing, "none": 1},
                                None)

    def test_pair_by_pair_in_the_dicts_order(self):
        for nodes, kind, field, thing in [
            ({"none": 1, "low": 2}, Unknown, "name", "none"), ({"low": 2, "none": 1}, NoName, "found", 2),
            ({"top": 3, "low": 2}, NoName, "found", 3), ({"no": "x", "none": "x"}, Unknown, "name", "no"),
            ({"low": "mid", "none": 1}, Unknown, "name", "none"), ({"low": "mid", "top": 1}, NoName, "found", 1),
        ]:
            self.assert_refused(kind, {field: thing}, renamed, program(), nodes, None)
            if len(nodes) == 2 and "low" not in nodes:
                self.assertIsNot(self.refusal(kind, renamed, program(), dict(reversed(nodes.items())), {}), None)

    def test_twice_of_nodes(self):
        for nodes, name in [
            ({"low": "mid"}, "mid"), ({"top": "low"}, "low"), ({"mid": "top"}, "top"),
            ({"low": "up", "mid": "up"}, "up"),
            ({"top": "up", "low": "up", "mid": "low"}, "up"), ({"low": "mid", "mid": "top"}, "top"),
            ({"mid": "low", "top": "low", "low": "low"}, "low"), ({"low": "top", "mid": "up", "top": "up"}, "up"),
        ]:
            for names in ({}, None, {"none": {}}):
                self.assert_refused(Twice, {"name": name}, renamed, program(), nodes, names)

    def test_refused_for_names(self):
        for nodes in ({}, {"low": "mid", "mid": "low"}):
            for thing in NO_NAMES:
                if not isinstance(thing, dict):
                    self.assert_refused(NoName, {"found": thing}, renamed, program(), nodes, thing)
                    self.assert_refused(NoName, {"found": thing}, renamed, program(), nodes, {"low": thing, "x": 1})
                self.assert_refused(NoName, {"found": thing}, renamed, program(), nodes, {"low": {"a": thing, "z": 1}})
            for key in [*KEYS, "a", "up"]:
                for others in ({}, None, {"z": 1}):
                    self.assert_refused(Unknown, {"name": key}, renamed, program(), nodes, {key: others, "low": None})
            for key in [*KEYS, "b", "y", "low", "x.p"]:
                for other in ("z", None):
                    self.assert_refused(Unknown, {"name": key}, renamed, program(), nodes,
                                        {"low": {key: other, "a": 1}})

    def test_names_are_looked_at_as_they_are_in_the_program(self):
        self.assert_refused(Unknown, {"name": "up"}, renamed, program(), {"low": "up"}, {"up": {"a": "z"}})
        self.assert_refused(Unknown, {"name": "b"}, renamed, program(), {"mid": "low", "low": "mid"},
                            {"low": {"b": "z"}})
        self.assert_refused(Unknown, {"name": "d"}, renamed, program(), {}, {"low": {"a": "d", "d": "a"}})

    def test_pair_by_pair_and_node_by_node(self):
        for names, kind, field, thing in [
            ({"low": {"a": 1}, "none": {}}, NoName, "found", 1),
            ({"none": {}, "low": {"a": 1}}, Unknown, "name", "none"),
            ({"low": {"a": "b", "z": 1}, "mid": 1}, Unknown, "name", "z"),
            ({"mid": 1, "low": {"z": 1}}, NoName, "found", 1),
            ({"low": {"a": 1, "z": "q"}}, NoName, "found", 1), ({"low": {"z": "q", "a": 1}}, Unknown, "name", "z"),
            ({"low": {"a": "c"}, "mid": {"z": 1}}, Twice, "name", "c"),
            ({"mid": {"z": 1}, "low": {"a": "c"}}, Unknown, "name", "z"),
            ({"top": {"r": "s"}, "low": {"a": "c"}}, Twice, "name", "s"),
            ({"low": {"a": "c", "p": 1}}, NoName, "found", 1),
            ({"low": {"a": "c"}, "none": 1}, Twice, "name", "c"), ({"low": {"a": "c", "q": 1}}, Unknown, "name", "q"),
        ]:
            self.assert_refused(kind, {field: thing}, renamed, program(), {}, names)

    def test_twice_of_names(self):
        for names, name in [
            ({"low": {"a": "c"}}, "c"), ({"low": {"c": "a"}}, "a"), ({"low": {"p": "a"}}, "a"),
            ({"low": {"x": "p"}}, "p"),
            ({"low": {"a": "z", "p": "z"}}, "z"), ({"low": {"a": "x", "x": "c"}}, "c"), ({"mid": {"k": "b"}}, "b"),
            ({"low": {"a": "z", "c": "w", "x": "w", "p": "z"}}, "w"), ({"top": {"q": "y"}}, "y"),
            ({"top": {"y": "q"}}, "q"),
            ({"mid": {"k": "a", "p": "b", "y": "x"}}, "x"),
        ]:
            self.assert_refused(Twice, {"name": name}, renamed, program(), {}, names)

    def test_nodes_ahead_of_names(self):
        for nodes in ([], {"none": "x"}, {"low": 1}, {"low": "mid"}):
            found = self.refusal(self.kind_of(nodes), renamed, program(), nodes, None)
            self.assertEqual(vars(found), vars(self.refusal(type(found), renamed, program(), nodes,
                                                            {"low": {"a": "c"}})))

    def kind_of(self, nodes):
        return NoName if nodes == [] or nodes == {"low": 1} else Unknown if "none" in nodes else Twice

    def test_dicts_handed_in_stay(self):
        nodes, names = {"low": "deep"}, {"low": {"a": "z"}}
        kept = renamed(program(), nodes, names)
        text = show_program(kept)
        self.assertEqual((nodes, names), ({"low": "deep"}, {"low": {"a": "z"}}))
        nodes.clear()
        names["low"].clear()
        self.assertEqual(show_program(kept), text)


class BehindTest(BeatCase):
    def test_names_of_all_levels(self):
        names = {"low": {"p": "w", "x": "y"}, "mid": {"x": "z", "k": "x", "a": "b", "b": "a"},
                 "top": {"t": "u", "r": "v"}}
        behind = names_behind(program(), "top", names)
        self.assert_exact(list(behind.items()), [
            ("r", "v"), ("s", "s"), ("t", "u"), ("t.x.p", "u.z.w"), ("q", "q"), ("t.p", "u.p"), ("t.k", "u.x"),
            ("y", "y"), ("y.p", "y.w"),
        ])
        self.assertEqual(list(behind), written_out(program(), "top").names())
        self.assertEqual(list(behind.values()), written_out(renamed(program(), {}, names), "top").names())

    def test_where_they_are_from(self):
        chance = random.Random(112)
        for _ in range(60):
            made, _ = sound_program(chance, chance.randint(1, 5), 10)
            names = other_names(chance, made)
            other = renamed(made, {}, names)
            for name in made.names():
                behind = names_behind(made, name, names)
                self.assertEqual(list(behind), written_out(made, name).names())
                for one, two in behind.items():
                    calls, own = where_from(made, name, one)
                    wanted, at = [], name
                    for first, called in calls:
                        wanted.append((names.get(at, {}).get(first, first), called))
                        at = called
                    self.assert_exact(where_from(other, name, two), (wanted, names.get(at, {}).get(own, own)))

    def test_told_dicts_are_new(self):
        made = program()
        names_behind(made, "low", {}).clear()
        self.assertEqual(names_behind(made, "low", {"low": {"a": "z"}}), {"a": "z", "c": "c", "x": "x", "p": "p"})

    def test_unknown_and_too_many_ahead_of_the_names(self):
        large = [TEXT] + [f"node {name} in a b out x\n" + "\n".join(
            f"{at}{letter} = call {called} a b" for letter in "opqrstuvwxyz" for at in "de") + "\nx = dz"
            for name, called in [("l", "low"), ("m", "l")]]
        made = read_program("\n".join(large))
        for names in ({}, None, {"none": 1}, {"low": {"a": "c"}}):
            for thing in [*NO_NAMES, "a", ["top"]]:
                self.assert_refused(Unknown, {"name": thing}, names_behind, program(), thing, names)
            many = self.refusal(TooMany, written_out, made, "m").many
            self.assert_refused(TooMany, {"many": many}, names_behind, made, "m", names)

    def test_refused_as_renaming_by_names(self):
        for names, kind, field, thing in [
            (None, NoName, "found", None), ([], NoName, "found", []), ({"none": {}}, Unknown, "name", "none"),
            ({"low": 1}, NoName, "found", 1), ({"low": {"z": "y"}}, Unknown, "name", "z"),
            ({"low": {"a": "in"}}, NoName, "found", "in"), ({"low": {"a": "c"}}, Twice, "name", "c"),
            # Also of a node that isn't below this one.
            ({"top": {"r": "s"}}, Twice, "name", "s"),
        ]:
            for name in ("low", "mid", "top"):
                self.assert_refused(kind, {field: thing}, names_behind, program(), name, names)


class RowTest(BeatCase):
    def test_rows(self):
        names = {"a": "b", "b": "a", "r.x": "s.y", "z": "w"}
        self.assert_exact(list(named_row({"a": 1, "r.x": [2], "c": None, "b": True}, names).items()),
                          [("b", 1), ("s.y", [2]), ("c", None), ("a", True)])
        self.assertEqual(named_row({}, names), {})
        self.assertEqual(named_row({"a": 1}, {}), {"a": 1})
        inner = [1]
        self.assertIs(named_row({"a": inner}, names)["b"], inner)

    def test_twice_of_the_first_new_name(self):
        for row, names, name in [
            ({"a": 1, "b": 2}, {"a": "b"}, "b"), ({"a": 1, "b": 2}, {"b": "a"}, "a"),
            ({"b": 1, "a": 2}, {"a": "b"}, "b"),
            ({"a": 1, "b": 2, "c": 3, "d": 4}, {"c": "b", "d": "a"}, "b"),
            ({"d": 1, "a": 2, "c": 3}, {"d": "c", "a": "c"}, "c"),
        ]:
            self.assert_refused(Twice, {"name": name}, named_row, row, names)

    def test_what_is_handed_in_stays(self):
        row, names = {"a": 1, "c": 2}, {"a": "c", "c": "a"}
        named_row(row, names)["b"] = 1
        self.assertEqual((list(row.items()), names), ([("a", 1), ("c", 2)], {"a": "c", "c": "a"}))

    def test_clocks(self):
        names = {"a": "b", "b": "a", "r.x": "s.y"}
        for clock, wanted in [((), ()), (("a",), ("b",)), (("c", "a", "r.x", "b"), ("c", "b", "s.y", "a")),
                              (("a", "a"), ("b", "b"))]:
            self.assert_exact(named_clock(clock, names), wanted)

    def test_rows_and_clocks_of_nodes_written_out(self):
        names = {"low": {"c": "d"}, "top": {"s": "e"}}
        behind = names_behind(program(), "top", names)
        out, other = [written_out(made, "top") for made in (program(), renamed(program(), {}, names))]
        self.assertEqual([(behind[name], row.renamed(behind).told()) for row in out.rows() for name in row.tells()],
                         [(name, row.told()) for row in other.rows() for name in row.tells()])
        low = read_program(TEXT.split("\nnode mid")[0])
        clocks = clocks_of(low.named("low"))
        behind = names_behind(low, "low", {"low": {"c": "d", "x": "c"}})
        wanted = clocks_of(renamed(low, {}, {"low": {"c": "d", "x": "c"}}).named("low"))
        self.assertEqual({behind[name]: named_clock(clock, behind) for name, clock in clocks.items()}, wanted)


if __name__ == "__main__":
    unittest.main()
