import random
import unittest

from beatrows.asking import run_by_asking
from beatrows.clocks import clocks_of
from beatrows.desk import Desk
from beatrows.errors import (
    BeatError, Hidden, NoBeats, NoCall, NoCells, NoClock, NoFit, NoInput, NoLine, NoOrder, NoProgram, NoText,
    Ring, TooMany, Twice, Unknown,
)
from beatrows.fitting import clocks_by, is_clash_by, is_order_by, is_ring_by
from beatrows.nodetext import show_node
from beatrows.orders import is_ring
from beatrows.programs import read_program, show_program
from beatrows.telling import cells_in, summary_of
from beatrows.words import own_words, value_text
from beatrows.writing import written_out

from cases import BeatCase, no_texts, some_rows, sound_program, wild_texts

TEXT = """node low in a c out x o
o = ( c = true )
p = before 0 a
x = a when o
node mid in b e out s g
s t = call low b e
g = hold -3 s
q = ( 10 / b )
node top in k m out z
z w = call mid k m
l = before true w
v y = call low k m"""
# Likewise, but the node in the middle hides nothing.
SOUND = TEXT.replace("out s g", "out s g t").replace("z w = call", "z w n = call").replace("out z", "out w")
# One right line with each first word.
LINES = {
    "row": "row x = a", "rows": "rows", "clear": "clear", "read": "read", "nodes": "nodes", "show": "show low",
    "write": "write low", "below": "below low", "clocks": "clocks low", "order": "order low", "tells": "tells low",
    "needs": "needs low", "turn": "turn low 2 1 0", "sort": "sort 0 1 2", "title": "title low up",
    "name": "name low a d", "ask": "ask low", "loop": "loop low", "part": "part low", "beat": "beat a 1 c true",
    "beats": "beats", "faults": "faults", "value": "value x 0", "cells": "cells", "stand": "stand p 1",
}
ROWS = ("row", "rows", "clear", "read")
RUNS = ("beat", "beats", "faults", "value", "cells", "stand")


def desk(text=TEXT, *lines):
    made = Desk()
    for row in text.split("\n"):
        made.say("row " + row)
    made.say("read")
    for line in lines:
        made.say(line)
    return made


class DeskCase(BeatCase):
    def says(self, made, line, *wanted):
        told = made.say(line)
        self.assertIs(type(told), list)
        self.assertEqual(told, list(wanted))
        told.append("more")

    def refused(self, made, said, kind, /, **fields):
        self.assert_refused(kind, fields, made.say, said)

    def state(self, made):
        """All that a desk tells of itself by lines that change nothing."""
        found = []
        for line in ["rows", "nodes", "show low", "show mid", "show top", "show up", "beats", "faults", "cells",
                     "value a 0",
                     "value b 0", "value k 0", "value x 0", "value z 1"]:
            try:
                found.append(made.say(line))
            except BeatError as refusal:
                found.append((type(refusal), vars(refusal)))
        return found


class LineTest(DeskCase):
    def wrong(self, made, line):
        self.refused(made, line, NoLine, line=line)

    def test_each_line(self):
        for line in LINES.values():
            self.assertIs(type(desk(TEXT, "loop low", "beat a 1 c true").say(line)), list)

    def test_blanks_line_feeds_and_other_first_words(self):
        made = desk(TEXT, "loop low", "beat a 1 c true")
        kept = self.state(made)
        for word, line in LINES.items():
            words = line.split(" ")
            self.wrong(made, " " + line)
            self.wrong(made, line + " ")
            self.wrong(made, line + "\n")
            self.wrong(made, "\n" + line)
            for at in range(1, len(words)):
                self.wrong(made, " ".join(words[:at]) + "  " + " ".join(words[at:]))
                self.wrong(made, " ".join(words[:at]) + "\n" + " ".join(words[at:]))
                self.wrong(made, " ".join(words[:at]) + " \n " + " ".join(words[at:]))
            for other in ["", word.upper(), word.capitalize(), word + "s", word[:-1], "x", "node", "desk", "say",
                          "mod", "0"]:
                if other not in LINES:
                    self.wrong(made, " ".join([other, *words[1:]]))
        self.assertEqual(self.state(made), kept)

    def test_a_word_more_or_fewer(self):
        made = desk(TEXT, "loop low", "beat a 1 c true")
        kept = self.state(made)
        for word, line in LINES.items():
            words = line.split(" ")
            if word not in ("row", "turn", "sort", "beat", "stand"):
                for more in ("x", "a", "1", "true", "low", "low low"):
                    self.wrong(made, f"{line} {more}")
            if len(words) > 1 and word not in ("row", "turn", "sort"):
                self.wrong(made, " ".join(words[:-1]))
        for line in ["row", "turn", "turn low", "sort", "beat", "beat a", "beat a 1 c", "stand p", "stand p 1 q",
                     "show",
                     "title low", "title", "name", "name low", "name low a", "value", "value x", "beat a 1 c true d"]:
            self.wrong(made, line)
        self.assertEqual(self.state(made), kept)

    def test_names_numbers_and_values(self):
        made = desk(TEXT, "loop low", "beat a 1 c true")
        kept = self.state(made)
        no_names = ["x.p", "Low", "LOW", "lo1", "abcdefghi", "1", "true", "-", ".", *own_words(), "x_y"]
        for word in ("show", "write", "below", "clocks", "order", "tells", "needs", "ask", "loop", "part"):
            for name in no_names:
                self.wrong(made, f"{word} {name}")
        for name in no_names:
            self.wrong(made, f"title {name} up")
            self.wrong(made, f"title low {name}")
            self.wrong(made, f"name {name} a d")
            self.wrong(made, f"name low {name} d")
            self.wrong(made, f"name low a {name}")
            self.wrong(made, f"turn {name} 2 1 0")
            self.wrong(made, f"beat {name} 1 c true")
            self.wrong(made, f"beat a 1 {name} true")
            if name != "x.p":
                self.wrong(made, f"value {name} 0")
                self.wrong(made, f"stand {name} 1")
        for name in (".p", "p.", "x..p", "X.p", "x.in", ".".join(["abcdefgh"] * 9) + "i", "x.abcdefghi"):
            self.wrong(made, f"value {name} 0")
            self.wrong(made, f"stand {name} 1")
            self.wrong(made, f"stand p 1 {name} 1")
        no_numbers = ["-1", "00", "01", "-0", "+1", "1000000001", "true", "false", "x", "1.0", "1e3", "9" * 5000,
                      "0x1", "-"]
        for number in no_numbers:
            for line in (f"turn low {number}", f"turn low 2 1 {number}", f"turn low {number} 1 0", f"sort {number}",
                         f"sort 0 1 {number}", f"sort {number} 1 2", f"value x {number}"):
                self.wrong(made, line)
        for value in ["00", "01", "-0", "-07", "+1", "1000000001", "-1000000001", "True", "x", "x.p", "none",
                      "9" * 5000]:
            for line in (f"beat a {value}", f"beat a 1 c {value}", f"beat a {value} c true", f"stand p {value}",
                         f"stand p 1 x {value}"):
                self.wrong(made, line)
        self.assertEqual(self.state(made), kept)

    def test_things_that_are_no_texts(self):
        for made in (Desk(), desk(), desk(TEXT, "ask low")):
            kept = self.state(made)
            for thing in [*no_texts(), ["rows"], ("rows",), {"rows": 1}, *wild_texts()]:
                self.wrong(made, thing)
            self.assertEqual(self.state(made), kept)

    def test_no_line_then_no_program_then_no_beats(self):
        empty, made = Desk(), desk()
        for word, line in LINES.items():
            for wrong in (line + " ", f"{line}\n", f" {line}"):
                self.wrong(empty, wrong)
                self.wrong(made, wrong)
            if word not in ROWS:
                self.refused(empty, line, NoProgram, found=None)
            if word in RUNS:
                self.refused(made, line, NoBeats, found=None)
        for line in ["show none", "turn none 7", "sort 9 9", "title none low", "ask none", "beat none 1",
                     "value none 9"]:
            self.refused(empty, line, NoProgram, found=None)
        for line in ["beat none 1", "beat a 1 a 1", "value none 9", "stand none 1 none 1", "value x 1000000000"]:
            self.refused(made, line, NoBeats, found=None)
        # Refused reading leaves none.
        empty.say("row none")
        self.refused(empty, "read", NoText, at=0)
        self.refused(empty, "nodes", NoProgram, found=None)


class RowsTest(DeskCase):
    def test_kept_told_and_cleared(self):
        made = Desk()
        self.says(made, "rows")
        rows = ["x", "row", "rows", "node low in a out x", "none .. 7 ' \" ^ ~", "x = a", "clear"]
        for at, row in enumerate(rows):
            self.says(made, f"row {row}")
            self.says(made, "rows", *rows[:at + 1])
            self.says(made, "rows", *rows[:at + 1])
        self.says(made, "clear")
        self.says(made, "rows")
        self.says(made, "clear")
        self.says(made, "row a")
        self.says(made, "rows", "a")

    def test_read(self):
        made = Desk()
        rows = TEXT.split("\n")
        for row in rows:
            made.say(f"row {row}")
        self.says(made, "read", "low", "mid", "top")
        self.says(made, "rows", *rows)
        self.says(made, "nodes", "low", "mid", "top")
        self.says(made, "clear")
        self.says(made, "nodes", "low", "mid", "top")

    def test_reading_again_ends_the_run(self):
        made = desk(TEXT, "ask low", "beat a 1 c true")
        self.says(made, "read", "low", "mid", "top")
        self.refused(made, "beats", NoBeats, found=None)

    def test_refused_as_reading(self):
        for rows, kind, fields in [
            ([], NoProgram, {"found": []}), (["x = a"], NoText, {"at": 0}),
            (["node n in a out x", "x = ( a"], NoText, {"at": 1}),
            (["node n in a out x", "x = b"], Unknown, {"name": "b"}),
            (["node n in a out x", "x = call m a"], NoCall, {"name": "m"}),
            (["node n in a out x", "x = a", "node n in a out x", "x = a"], Twice, {"name": "n"}),
        ]:
            for made in (Desk(), desk(TEXT, "ask low", "beat a 1 c true", "clear")):
                for row in rows:
                    made.say(f"row {row}")
                kept = self.state(made)
                self.refused(made, "read", kind, **fields)
                self.assertEqual(self.state(made), kept)
                self.says(made, "rows", *rows)


class NodeTest(DeskCase):
    def test_each_line(self):
        made, program = desk(SOUND), read_program(SOUND)
        self.says(made, "nodes", "low", "mid", "top")
        for name in ("low", "mid", "top"):
            self.says(made, f"show {name}", *show_node(program.named(name)).split("\n"))
            self.says(made, f"write {name}", *show_node(written_out(program, name)).split("\n"))
            self.says(made, f"below {name}", *program.below(name))
            self.says(made, f"clocks {name}", *[" ".join([each, *clock]) for each,
                                                clock in clocks_by(program, name).items()])
            self.assertIs(is_order_by(program, name, made.say(f"order {name}")), True)
            self.says(made, f"needs {name}", str(cells_in(program, name)))
        self.says(made, "show low", "node low in a c out x o", "o = ( c = true )", "p = before 0 a", "x = a when o")
        self.says(made, "clocks low", "a", "c", "o", "p", "x o")
        self.says(made, "below low")
        self.says(made, "below top", "low", "mid")
        self.says(made, "needs top", "4")
        self.says(made, "tells low", "x : o : a c : a c", "o : : c : c")

    def test_tells(self):
        text = "node n in a c out x y b z\nx = before 0 a\ny = ( c + 1 )\nz = v when b\nv = a when c\nb = 1 like v"
        self.says(desk(text), "tells n",
                  "x : : a :", "y : : c : c", "b : c : a c : c", "z : c b : a c : a c")

    def test_of_any_sound_program(self):
        chance = random.Random(123)
        for _ in range(30):
            program, _ = sound_program(chance, chance.randint(1, 4), 8)
            made = desk(show_program(program))
            for name in program.names():
                self.assertIs(is_order_by(program, name, made.say(f"order {name}")), True)
                self.says(made, f"clocks {name}",
                          *[" ".join([each, *clock]) for each, clock in clocks_by(program, name).items()])
                self.says(made, f"tells {name}", *[
                    " ".join([out, ":", *labels, ":", *follows, ":", *hangs])
                    for out, labels, follows, hangs in summary_of(program, name)])

    def test_refused_as_there(self):
        made = desk(TEXT, "ask low")
        for word in ("show", "write", "below", "clocks", "order", "tells", "needs"):
            self.refused(made, f"{word} none", Unknown, name="none")
            self.refused(made, f"{word} x", Unknown, name="x")
        self.refused(made, "tells mid", Hidden, name="s", other="t")
        for line in ("clocks top", "order top", "tells top"):
            self.refused(made, line, Hidden, name="s", other="t")
        large = "\n".join(["node d in a out x", "x = a", *[
            line for one, two in zip("efg", "def") for line in
            [f"node {one} in a out x", *[f"y{at} = call {two} a" for at in "abcdefgh"], "x = a"]]])
        self.refused(desk(large), "write g", TooMany, many=1 + 8 * (8 * 9 + 1) + 1)
        self.says(desk(large), "needs g", "0")
        for rows, word, kind in [("x = hold 0 a", "hold", NoFit), ("x = x", "none", NoClock),
                                 ("x = ( y + a )\ny = x", "ring", Ring)]:
            text = f"node n in a c out x\n{rows}"
            made, program = desk(text), read_program(text)
            for line in ["clocks n", "order n", "tells n"]:
                if (word, line) == ("ring", "clocks n"):
                    self.assertEqual(len(made.say(line)), 4)
                    continue
                refusal = self.refusal(kind, made.say, line)
                if word == "hold":
                    self.assertIs(is_clash_by(program, "n", refusal.paper), True)
                elif word == "ring":
                    self.assertIs(is_ring_by(program, "n", refusal.paper), True)
                else:
                    self.assertEqual(refusal.name, "x")
            self.says(made, "write n", *text.split("\n"))

    def test_lines_about_a_node_change_nothing(self):
        made = desk(TEXT, "loop low", "beat a 1 c true")
        kept = self.state(made)
        for word in ("nodes", "show", "write", "below", "clocks", "order", "tells", "needs"):
            made.say(LINES[word])
            self.assertEqual(self.state(made), kept)


class OtherwiseTest(DeskCase):
    def changed(self, line, *changes):
        made = desk(TEXT, "ask low", "beat a 1 c true")
        self.says(made, line)
        text = TEXT
        for old, new in changes:
            self.assertIn(old, text)
            text = text.replace(old, new)
        program = read_program(text)
        self.says(made, "nodes", *program.names())
        for name in program.names():
            self.says(made, f"show {name}", *show_node(program.named(name)).split("\n"))
        self.refused(made, "beats", NoBeats, found=None)
        self.says(made, "rows", *TEXT.split("\n"))
        self.says(made, "read", "low", "mid", "top")
        self.says(made, "show low", *TEXT.split("\n")[:4])

    def test_turn(self):
        self.changed("turn low 2 0 1", ("o = ( c = true )\np = before 0 a\nx = a when o",
                                        "x = a when o\no = ( c = true )\np = before 0 a"))
        self.changed("turn low 0 1 2")

    def test_sort(self):
        self.changed("sort 0 1 2")
        made = desk("node d in a out x\nx = a\nnode e in a out x\nx = a\nnode f in a out x\nx = call e a", "ask d")
        self.says(made, "sort 1 2 0")
        self.says(made, "nodes", "e", "f", "d")
        self.refused(made, "beats", NoBeats, found=None)

    def test_title(self):
        self.changed("title low deep", ("low", "deep"))
        self.changed("title top up", ("node top", "node up"))
        self.changed("title mid mid")

    def test_name(self):
        self.changed("name low a d", ("in a c", "in d c"), ("before 0 a", "before 0 d"), ("a when o", "d when o"))
        self.changed("name mid t r", ("s t =", "s r ="))
        self.changed("name mid t t")

    def test_refused(self):
        made = desk(TEXT, "loop low", "beat a 1 c true")
        kept = self.state(made)
        for line, kind, fields in [
            ("turn none 0", Unknown, {"name": "none"}), ("turn low 0", NoOrder, {"found": [0]}),
            ("turn low 0 1 1", NoOrder, {"found": [0, 1, 1]}), ("turn low 1 2 3", NoOrder, {"found": [1, 2, 3]}),
            ("turn low 0 1 2 3", NoOrder, {"found": [0, 1, 2, 3]}),
            ("turn low 1000000000 1 2", NoOrder, {"found": [10 ** 9, 1, 2]}),
            ("sort 0", NoOrder, {"found": [0]}), ("sort 0 1 3", NoOrder, {"found": [0, 1, 3]}),
            ("sort 1 0 2", NoCall, {"name": "low"}), ("sort 2 1 0", NoCall, {"name": "mid"}),
            ("sort 2 2 0", NoOrder, {"found": [2, 2, 0]}),
            ("title none up", Unknown, {"name": "none"}), ("title none low", Unknown, {"name": "none"}),
            ("title low mid", Twice, {"name": "mid"}), ("title top low", Twice, {"name": "low"}),
            ("name none a b", Unknown, {"name": "none"}), ("name low b d", Unknown, {"name": "b"}),
            ("name low b a", Unknown, {"name": "b"}), ("name low a x", Twice, {"name": "x"}),
            ("name low x a", Twice, {"name": "a"}),
        ]:
            self.refused(made, line, kind, **fields)
            self.assertEqual(self.state(made), kept)

    def test_what_comes_is_put_otherwise_further(self):
        made = desk(TEXT, "title low deep", "name deep a d", "turn deep 1 0 2", "title deep low", "name low d a",
                    "turn low 1 0 2")
        for name in ("low", "mid", "top"):
            self.says(made, f"show {name}", *show_node(read_program(TEXT).named(name)).split("\n"))


class RunTest(DeskCase):
    def test_begun_by_each_of_three_kinds_each_in_place_of_another(self):
        made = desk(SOUND)
        for word in ("ask", "loop", "part", "loop", "ask", "part", "ask"):
            for name, line in [("low", "beat a 1 c true"), ("mid", "beat b 1 e true"), ("top", "beat k 1 m true")]:
                self.says(made, f"{word} {name}")
                self.says(made, "beats", "0")
                self.says(made, "faults")
                self.assertGreater(len(made.say(line)), 4)
                self.says(made, "beats", "1")
        self.says(made, "rows", *SOUND.split("\n"))
        self.says(made, "nodes", "low", "mid", "top")

    def test_refused_as_writing_out_then_as_the_run(self):
        made = desk(TEXT, "loop low", "beat a 1 c true")
        kept = self.state(made)
        for word in ("ask", "loop", "part"):
            self.refused(made, f"{word} none", Unknown, name="none")
            self.refused(made, f"{word} x", Unknown, name="x")
        self.refused(made, "part mid", Hidden, name="s", other="t")
        self.refused(made, "part top", Hidden, name="s", other="t")
        self.assertEqual(self.state(made), kept)
        for line in ("ask mid", "loop top"):
            self.says(made, line)

    def test_refused_of_nodes_that_are_not_sound(self):
        good = "node ok in a c out x\nx = a"
        for rows, kind in [("x = hold 0 a", NoFit), ("x = x", NoClock), ("x = ( y + a )\ny = x", Ring),
                           ("y = a when c\nsame a y\nx = a", NoFit)]:
            text = f"{good}\nnode n in a c out x\n{rows}\nnode m in a c out x\nx = call n a c"
            made, program = desk(text, "loop ok", "beat a 1 c 2"), read_program(text)
            kept = self.state(made)
            for word in ("ask", "loop", "part"):
                for name in ("n", "m"):
                    refusal = self.refusal(kind, made.say, f"{word} {name}")
                    if kind is Ring and word == "part":
                        self.assertIs(is_ring_by(program, "n", refusal.paper), True)
                    elif kind is Ring:
                        out = written_out(program, name)
                        self.assertIs(is_ring(out, clocks_of(out), refusal.paper), True)
                    self.assertEqual(self.state(made), kept)

    def test_too_many_ahead_of_an_asker_and_behind_a_part(self):
        low = "\n".join(["node d in a c out x", *[f"x{at} = a" for at in "abcdefghij"], "x = a"])
        calls = [f"z{at} = call d a c" for at in "abcdefghijklmnopqrs"]
        for more, kind in [
            (["x = a"], TooMany), (["x = hold 0 a"], NoFit), (["x = x"], NoClock), (["x = ( a + l )", "l = x"], Ring),
            (["h = ( a = 1 )", "x = a when h"], Hidden), (["h = a when c", "same h a", "x = a"], NoFit),
        ]:
            made = desk("\n".join([low, "node e in a c out x", *calls, *more]))
            for word in ("ask", "loop"):
                self.assertGreater(self.refusal(TooMany, made.say, f"{word} e").many, 200)
            self.refusal(kind, made.say, "part e")

    def test_too_many_by_millions(self):
        texts = ["node d in a out x\nx = before 0 a"]
        for name, called in zip("efghijk", "defghij"):
            rows = [f"x{letter} = call {called} a" for letter in "abcdefghijklmnopqrst"]
            texts.append("\n".join([f"node {name} in a out xa", *rows]))
        made = desk("\n".join(texts))
        for word in ("ask", "loop", "part"):
            self.assertGreater(self.refusal(TooMany, made.say, f"{word} k").many, 10 ** 6)


class BeatTest(DeskCase):
    KINDS = ("ask", "loop", "part")

    def test_beat_by_hand(self):
        for word in self.KINDS:
            made = desk(TEXT, f"{word} low")
            self.says(made, "beat a 5 c true", "a 5", "c true", "o true", "p 0", "x 5")
            self.says(made, "beat c false a -7", "a -7", "c false", "o false", "p 5")
            self.says(made, "beats", "2")
            self.says(made, "faults")
            for line, wanted in [("value x 0", "5"), ("value x 1", "still"), ("value c 0", "true"),
                                 ("value o 1", "false"),
                                 ("value p 1", "5"), ("value a 1", "-7")]:
                self.says(made, line, wanted)
            self.says(made, "beat a 1 c 3", "fault o kind")
            self.says(made, "beats", "2")
            self.says(made, "faults", "2", "o kind")
            self.says(made, "faults", "2", "o kind")
            self.says(made, "value x 1", "still")
            self.refused(made, "value x 2", NoBeats, found=2)
            self.refused(made, "beat a 1 c true", NoBeats, found=2)

    def test_each_kind_tells_the_same_as_the_run_by_asking(self):
        chance = random.Random(125)
        over = 0
        for _ in range(60):
            program, truths = sound_program(chance, chance.randint(1, 4), 10)
            name = program.names()[-1]
            node = written_out(program, name)
            rows = some_rows(chance, node, truths[name], chance.randint(1, 8))
            told, faults = run_by_asking(node, rows)
            over += faults is not None
            made = desk(show_program(program))
            for word in self.KINDS:
                made.say(f"{word} {name}")
                self.run_is_told(chance, made, node, rows, told, faults)
        self.assertGreater(over, 5)

    def run_is_told(self, chance, made, node, rows, told, faults):
        for beat, row in enumerate(told):
            given = chance.sample(list(rows[beat].items()), len(rows[beat]))
            line = " ".join(["beat", *[f"{name} {value_text(value)}" for name, value in given]])
            self.says(made, line, *[f"{name} {value_text(value)}" for name, value in row.items()])
        if faults is not None:
            line = " ".join(["beat", *[f"{name} {value_text(value)}" for name, value in rows[len(told)].items()]])
            self.says(made, line, *[f"fault {name} {word}" for name, word in faults[1]])
            self.says(made, "faults", str(faults[0]), *[f"{name} {word}" for name, word in faults[1]])
        else:
            self.says(made, "faults")
        self.says(made, "beats", str(len(told)))
        for name in node.names():
            for beat, row in enumerate(told):
                self.says(made, f"value {name} {beat}", value_text(row[name]) if name in row else "still")

    def test_several_faults_in_the_order_of_texts(self):
        text = "node n in a out z\nz = ( 1 / a )\nb = ( a + true )\ny = ( z + 1 )\nc = ( ! a )\nk = before 4 a"
        for word in self.KINDS:
            made = desk(text, f"{word} n")
            self.says(made, "beat a 0", "fault b kind", "fault c kind", "fault z nought")
            self.says(made, "faults", "0", "b kind", "c kind", "z nought")
            self.says(made, "beats", "0")
            self.refused(made, "value a 0", NoBeats, found=0)
        self.says(desk(text.replace("b = ( a + true )\n", "").replace("c = ( ! a )\n", ""), "part n"), "beat a 0",
                  "fault z nought")

    def test_beat_refused_in_the_told_order(self):
        for word in self.KINDS:
            made = desk(TEXT, f"{word} low", "beat a 1 c true")
            for over in (False, True):
                for line, kind, fields in [
                    ("beat a 1 a 1", Twice, {"name": "a"}), ("beat a 1 c true a 2 c true", Twice, {"name": "a"}),
                    ("beat z 1 a 1 z 1", Twice, {"name": "z"}), ("beat z 1 y 1 y 2 z 1", Twice, {"name": "y"}),
                    ("beat z 1", Unknown, {"name": "z"}), ("beat a 1 x 1", Unknown, {"name": "x"}),
                    ("beat y 1 z 1 a 1 c true", Unknown, {"name": "y"}), ("beat c true o 1", Unknown, {"name": "o"}),
                ]:
                    self.refused(made, line, kind, **fields)
                for line, name in [("beat a 1", "c"), ("beat c true", "a")]:
                    if over:
                        self.refused(made, line, NoBeats, found=1)
                    else:
                        self.refused(made, line, NoInput, name=name, beat=1)
                self.says(made, "beats", "1")
                if not over:
                    self.says(made, "beat a 1 c 1", "fault o kind")

    def test_two_hundred_beats_and_one_more(self):
        for word in self.KINDS:
            made = desk("node n in a c out x\nx = before 0 a", f"{word} n")
            for beat in range(200):
                self.says(made, f"beat c 1 a {beat}", f"a {beat}", "c 1", f"x {max(0, beat - 1)}")
            for line in ("beat a 1 c 1", "beat a 1", "beat c 1"):
                self.refused(made, line, NoBeats, found=200)
            self.refused(made, "beat c 1 c 1", Twice, name="c")
            self.refused(made, "beat x 1", Unknown, name="x")
            self.says(made, "beats", "200")
            self.says(made, "faults")
            self.says(made, "value x 199", "198")
            self.refused(made, "value x 200", NoBeats, found=200)

    def test_value_refused(self):
        for word in self.KINDS:
            made = desk(SOUND, f"{word} mid")
            for name in ("k", "c", "s.x", "s.o", "x.p", "low", "mid", "o"):
                for beat in ("0", "9"):
                    self.refused(made, f"value {name} {beat}", Unknown, name=name)
            for name in ("b", "s", "s.p", "g"):
                self.refused(made, f"value {name} 0", NoBeats, found=0)
            made.say("beat b 5 e true")
            self.says(made, "value s.p 0", "0")
            self.says(made, "value s 0", "5")
            self.refused(made, "value s.p 1", NoBeats, found=1)
            self.refused(made, "value s.p 1000000000", NoBeats, found=10 ** 9)
            self.refused(made, "value none 1", Unknown, name="none")


class CellsTest(DeskCase):
    def test_cells(self):
        for word in ("loop", "part"):
            made = desk(SOUND, f"{word} top")
            self.says(made, "cells", "z.s.p 0", "w -3", "l true", "v.p 0")
            made.say("beat k 5 m true")
            self.says(made, "cells", "z.s.p 5", "w 5", "l 5", "v.p 5")
            made.say("beat k 7 m false")
            self.says(made, "cells", "z.s.p 7", "w 5", "l 5", "v.p 7")
            self.says(made, "beat k 0 m true", "fault z.q nought")
            self.says(made, "cells", "z.s.p 7", "w 5", "l 5", "v.p 7")
            self.says(desk("node n in a out x\nx = a", f"{word} n"), "cells")
        self.refused(desk(TEXT, "ask low"), "cells", NoCells, found=None)

    def test_stand(self):
        made = desk(SOUND, "loop top", "beat k 5 m true")
        self.says(made, "stand v.p 9 l false z.s.p -1 w true")
        self.says(made, "beats", "0")
        self.refused(made, "value k 0", NoBeats, found=0)
        self.says(made, "cells", "z.s.p -1", "w true", "l false", "v.p 9")
        self.says(made, "beat k 1 m false", "k 1", "m false", "n false", "z.s.p -1", "w true", "z.q 10", "l false",
                  "y false",
                  "v.p 9")
        self.says(made, "beat k 0 m false", "fault z.q nought")
        self.says(made, "stand z.s.p 1 w 2 l 3 v.p 4")
        self.says(made, "faults")
        self.says(made, "beats", "0")
        made.say("beat k 1 m true")
        self.says(made, "beats", "1")
        none = desk("node n in a out x\nx = ( 1 / a )", "loop n", "beat a 1")
        self.says(none, "stand")
        self.says(none, "beats", "0")
        self.says(none, "beat a 1", "a 1", "x 1")

    def test_stand_refused_in_the_told_order(self):
        made = desk(SOUND, "loop top", "beat k 5 m true")
        kept = self.state(made)
        for line, name in [
            ("stand w 1 w 1", "w"), ("stand none 1 w 1 w 2 none 3", "w"), ("stand z.s.p 1 w 1 z.s.p 2 w 1", "z.s.p"),
        ]:
            self.refused(made, line, Twice, name=name)
        for line, cells in [
            ("stand", {}), ("stand w 1", {"w": 1}), ("stand z.s.p 1 w 2 l 3", {"z.s.p": 1, "w": 2, "l": 3}),
            ("stand z.s.p 1 w 2 l 3 v.p 4 z 5", {"z.s.p": 1, "w": 2, "l": 3, "v.p": 4, "z": 5}),
            ("stand z.s.p 1 w 2 l 3 q.p true", {"z.s.p": 1, "w": 2, "l": 3, "q.p": True}),
        ]:
            self.refused(made, line, NoCells, found=cells)
        self.assertEqual(self.state(made), kept)
        for word in ("ask", "part"):
            other = desk(SOUND, f"{word} top", "beat k 5 m true")
            kept = self.state(other)
            for line in ("stand", "stand w 1 w 1", "stand z.s.p 1 w 2 l 3 v.p 4"):
                self.refused(other, line, NoCells, found=None)
            self.assertEqual(self.state(other), kept)


class SideBySideTest(DeskCase):
    def test_two_desks_have_nothing_in_common(self):
        one, other = desk(), Desk()
        self.says(other, "rows")
        self.refused(other, "nodes", NoProgram, found=None)
        other.say("row node n in a out x")
        other.say("row x = before 0 a")
        other.say("read")
        for word in ("ask", "loop"):
            one.say(f"{word} low")
            self.refused(other, "beats", NoBeats, found=None)
        other.say("loop n")
        other.say("beat a 4")
        self.says(one, "beats", "0")
        self.says(one, "cells", "p 0")
        self.says(one, "nodes", "low", "mid", "top")
        one.say("clear")
        self.says(other, "rows", "node n in a out x", "x = before 0 a")
        self.says(other, "cells", "x 4")

    def test_answers_may_be_changed(self):
        made = desk(TEXT, "loop low", "beat a 1 c true")
        for line in LINES.values():
            if line.split(" ")[0] in ("rows", "nodes", "show", "write", "below", "clocks", "tells", "needs", "beats",
                                      "cells"):
                wanted = made.say(line)
                made.say(line).append("more")
                self.assertEqual(made.say(line), wanted)


if __name__ == "__main__":
    unittest.main()
