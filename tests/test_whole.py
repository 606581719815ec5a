"""What the document promises of the whole: see its point 8."""

import random
import unittest

from beatrows.asking import Asker, run_by_asking
from beatrows.clockpapers import is_clash, is_clock_paper
from beatrows.clocks import clock_paper, clocks_of, ticks
from beatrows.errors import BeatError, Hidden, NoCall, NoClock, NoFit, Ring
from beatrows.fitting import reads_by, sound_by
from beatrows.loops import Loop, run_loop
from beatrows.nodes import Node
from beatrows.nodetext import read_node, show_node
from beatrows.orders import is_order, is_ring, need_sound, ranks_of
from beatrows.programs import Program, program_of, read_program, show_program
from beatrows.reading import reached_from, reads_of
from beatrows.renaming import named_clock, named_row, names_behind, renamed
from beatrows.running import is_run
from beatrows.telling import cells_in, summary_of
from beatrows.together import run_by_parts
from beatrows.turning import nodes_turned, same_but_order, turned
from beatrows.writing import written_out

from cases import BeatCase, Played, other_names, some_node, some_rows, sound_node, sound_program, spoilt_program

# The called nodes keep cells, and one of them tells a name on a clock of its own.
PROGRAM = """node count in a r out n
p = before 0 n
n = ( r ? 0 : ( p + a ) )
node odd in a out o y
o = ( ( a mod 2 ) = 1 )
y = a when o
node top in a r out s t
n = call count a r
o y = call odd n
u = call count y f
f = false like y
s = hold -1 u
v z = call odd s
t = hold 0 z"""


class SoundTest(BeatCase):
    def test_clocks_orders_and_refusals_are_told_with_papers(self):
        chance = random.Random(8)
        seen = {"sound": 0, "fit": 0, "clock": 0, "ring": 0}
        for _ in range(800):
            node = some_node(chance, chance.randint(1, 7))
            try:
                clocks, order = need_sound(node)
                self.assertIs(is_clock_paper(node, clock_paper(node)), True)
                self.assertIs(is_order(node, clocks, order), True)
                seen["sound"] += 1
            except NoFit as refusal:
                self.assertIs(is_clash(node, refusal.paper), True)
                seen["fit"] += 1
            except NoClock as refusal:
                self.assertIn(refusal.name, node.names())
                seen["clock"] += 1
            except Ring as refusal:
                self.assertIs(is_ring(node, clocks_of(node), refusal.paper), True)
                seen["ring"] += 1
        self.assertGreater(min(seen.values()), 2, seen)


class SufficesTest(BeatCase):
    """What a node tells of itself suffices, wherever it is called: see point 97."""

    def fitted(self, chance, many):
        """Programs whose last node calls others that are sound and hide nothing, mostly sound itself."""
        while many:
            program, _ = sound_program(chance, chance.randint(2, 4), 9)
            name = program.names()[-1]
            other = spoilt_program(chance, program) if chance.random() < 0.6 else program
            if program.below(name) and other.told()[:-1] == program.told()[:-1]:
                many -= 1
                yield other, name

    def test_clocks_and_ways_of_own_names(self):
        ways = 0
        for program, name in self.fitted(random.Random(97), 250):
            try:
                clocks, order = sound_by(program, name)
            except BeatError:
                continue
            node, out = program.named(name), written_out(program, name)
            wanted = need_sound(out)[0]
            self.assert_exact(clocks, {own: wanted[own] for own in node.names()})
            reads = reads_by(program, name)
            called = [told for row in node.rows() if row.is_call() for told in row.tells()]
            for own in node.names():
                here = [own]
                for each in here:
                    here += [other for other in reads[each] if other not in here]
                there = reached_from(out, wanted, own)
                self.assertEqual({each for each in here if each not in called},
                                 {each for each in there if each in node.names() and each not in called} | (
                                     {own} - set(called)))
                ways += len(here) - 1
        self.assertGreater(ways, 1000)

    def test_what_is_not_sound_is_so_written_out(self):
        seen = {"NoFit": 0, "NoClock": 0, "Ring": 0, "sound": 0}
        for program, name in self.fitted(random.Random(98), 500):
            out = written_out(program, name)
            try:
                sound_by(program, name)
                need_sound(out)
                seen["sound"] += 1
            except BeatError as refusal:
                found = self.refusal(type(refusal), sound_by, program, name)
                if isinstance(found, Ring):
                    paper = self.refusal(Ring, need_sound, out).paper
                    self.assertIs(is_ring(out, clocks_of(out), paper), True)
                else:
                    with self.assertRaises((NoFit, NoClock)):
                        need_sound(out)
                seen[type(found).__name__] += 1
        self.assertGreater(min(seen.values()), 3, seen)

    def test_a_loop_has_as_many_cells_as_the_node_tells(self):
        for program, name in self.fitted(random.Random(99), 60):
            try:
                loop = Loop(written_out(program, name))
            except BeatError:
                continue
            self.assertEqual(len(loop.cells()), cells_in(program, name))

    def test_the_order_of_rows_and_of_nodes_changes_nothing(self):
        chance = random.Random(100)
        for program, name in self.fitted(chance, 150):
            nodes = []
            for node in [program.named(each) for each in program.names()]:
                rows = [row.told() for row in node.rows()]
                nodes.append(Node(node.name, node.inputs(), node.outs(), chance.sample(rows, len(rows))))
            other = Program(nodes)
            try:
                clocks, _ = sound_by(program, name)
            except BeatError as refusal:
                self.refusal(type(refusal), sound_by, other, name)
                continue
            self.assertEqual(sound_by(other, name)[0], clocks)
            self.assertEqual({own: set(reads) for own, reads in reads_by(other, name).items()},
                             {own: set(reads) for own, reads in reads_by(program, name).items()})
            try:
                self.assert_exact(summary_of(other, name), summary_of(program, name))
            except Hidden:
                self.refusal(Hidden, summary_of, other, name)
            self.assertEqual(cells_in(other, name), cells_in(program, name))


class RunTest(BeatCase):
    def test_asking_and_the_loop_tell_the_same(self):
        chance = random.Random(9)
        words, over, beats, levels = set(), 0, 0, 0
        for _ in range(250):
            node, truths = sound_node(chance, chance.randint(3, 24))
            rows = some_rows(chance, node, truths, chance.randint(0, 20))
            played = Played(node, rows)
            told = run_by_asking(node, rows)
            self.assert_exact(told, (played.told, played.faults))
            self.assert_exact(run_loop(node, rows), told)
            self.assertIs(is_run(node, rows, told), True)
            words.update(word for _, word in (played.faults or (0, []))[1])
            over += played.faults is not None
            beats += len(played.told)
            levels = max(levels, max(len(clock) for clock in played.clocks.values()))
        self.assertEqual(words, {"kind", "nought", "great"})
        self.assertGreater(over, 30)
        self.assertGreater(beats, 500)
        self.assertGreater(levels, 2)

    def test_names_have_values_at_just_the_beats_of_their_clocks(self):
        chance = random.Random(10)
        for _ in range(80):
            node, truths = sound_node(chance, chance.randint(3, 20))
            clocks, told = clocks_of(node), run_by_asking(node, some_rows(chance, node, truths, 15))[0]
            for row in told:
                for name, clock in clocks.items():
                    self.assertIs(name in row, ticks(clock, row))

    def test_no_value_is_read_at_a_beat_at_which_it_is_still(self):
        chance = random.Random(11)
        for _ in range(80):
            node, truths = sound_node(chance, chance.randint(3, 20))
            reads = reads_of(node, clocks_of(node))
            for row in run_by_asking(node, some_rows(chance, node, truths, 15))[0]:
                for name in row:
                    teller = node.teller(name)
                    if teller is not None and teller.told()[0] in ("plain", "when"):
                        self.assertEqual([other for other in reads[name] if other not in row], [])

    def test_values_hang_on_the_rows_up_to_their_beat_alone(self):
        chance = random.Random(12)
        for _ in range(60):
            node, truths = sound_node(chance, chance.randint(3, 15))
            rows = some_rows(chance, node, truths, 12)
            told = run_by_asking(node, rows)[0]
            for many in (1, 4, 9):
                other = rows[:many] + some_rows(chance, node, truths, 3)
                self.assert_exact(run_by_asking(node, other)[0][:many], told[:many])

    def test_the_order_of_rows_changes_nothing(self):
        chance = random.Random(13)
        for _ in range(80):
            node, truths = sound_node(chance, chance.randint(3, 15))
            name, inputs, outs, rows = node.told()
            other = Node(name, inputs, outs, chance.sample(rows, len(rows)))
            given = some_rows(chance, node, truths, 10)
            for run in (run_by_asking, run_loop):
                self.assertEqual(run(other, given), run(node, given))
            self.assertEqual(Loop(other).cells(), Loop(node).cells())
            self.assertIs(is_run(other, given, run_by_asking(node, given)), True)

    def test_what_a_loop_tells_hangs_on_its_cells_and_what_follows(self):
        chance = random.Random(14)
        for _ in range(80):
            node, truths = sound_node(chance, chance.randint(3, 15))
            one, other = Loop(node), Loop(node)
            for loop, many in ((one, 3), (other, 6)):
                for row in some_rows(chance, node, truths, many):
                    if loop.faults() is None:
                        loop.step(row)
            stood = other.stood_at(one.cells())
            for row in some_rows(chance, node, truths, 8):
                if one.faults() is None and stood.faults() is None:
                    self.assert_exact(stood.step(row), one.step(row))
                    self.assert_exact(stood.cells(), one.cells())


class PartsTest(BeatCase):
    def test_asking_the_loop_and_parts_tell_the_same_of_each_node(self):
        chance = random.Random(16)
        seen = {"over": 0, "none": 0}
        for _ in range(60):
            program, truths = sound_program(chance, chance.randint(2, 6), 12)
            for name in program.names():
                node = written_out(program, name)
                rows = some_rows(chance, node, truths[name], 8)
                told = run_by_asking(node, rows)
                self.assert_exact(run_loop(node, rows), told)
                self.assert_exact(run_by_parts(program, name, rows), told)
                self.assertIs(is_run(node, rows, told), True)
                seen["none" if told[1] is None else "over"] += 1
        self.assertGreater(min(seen.values()), 20, seen)


class OtherwiseTest(BeatCase):
    """Put in another order and under other names all is answered alike: see point 116."""

    def otherwise(self, chance, program):
        """The program with its rows and nodes in another order, and then with other names, which are told, too."""
        other = program
        for name in program.names():
            many = len(program.named(name).rows())
            other = turned(other, name, chance.sample(range(many), many))
        many = len(program.names())
        for _ in range(4):
            try:
                other = nodes_turned(other, chance.sample(range(many), many))
            except NoCall:
                pass
        self.assertIs(same_but_order(other, program), True)
        names = other_names(chance, program)
        nodes = dict(zip(program.names(), chance.sample(program.names(), many)))
        return renamed(other, nodes, names), names, nodes

    def test_clocks_ranks_values_and_faults(self):
        chance = random.Random(116)
        over = 0
        for _ in range(80):
            program, truths = sound_program(chance, chance.randint(1, 5), 12)
            other, names, nodes = self.otherwise(chance, program)
            for name in program.names():
                behind = names_behind(program, name, names)
                one, two = written_out(program, name), written_out(other, nodes[name])
                self.assertEqual(two.inputs(), [behind[each] for each in one.inputs()])
                self.assertEqual(two.outs(), [behind[each] for each in one.outs()])
                clocks, found = clocks_of(one), clocks_of(two)
                self.assertEqual(found, named_row({each: named_clock(clocks[each], behind) for each in clocks}, behind))
                self.assertEqual(ranks_of(two, found), named_row(ranks_of(one, clocks), behind))
                rows = some_rows(chance, one, truths[name], 6)
                told, faults = run_by_asking(one, rows)
                wanted = [named_row(row, behind) for row in told]
                if faults is not None:
                    faults = (faults[0], sorted((behind[each], word) for each, word in faults[1]))
                    over += 1
                given = [named_row(row, behind) for row in rows]
                for run in (run_by_asking(two, given), run_loop(two, given), run_by_parts(other, nodes[name], given)):
                    self.assertEqual(run, (wanted, faults))
        self.assertGreater(over, 10)

    def test_refused_just_where_it_was(self):
        chance = random.Random(117)
        seen = {"NoFit": 0, "NoClock": 0, "Ring": 0, "sound": 0}
        for _ in range(250):
            program = spoilt_program(chance, sound_program(chance, chance.randint(1, 4), 9)[0])
            other, names, nodes = self.otherwise(chance, program)
            for name in program.names():
                one, two = written_out(program, name), written_out(other, nodes[name])
                try:
                    need_sound(one)
                    need_sound(two)
                    seen["sound"] += 1
                except BeatError as refusal:
                    self.refusal(type(refusal), need_sound, one)
                    self.refusal(type(refusal), need_sound, two)
                    seen[type(refusal).__name__] += 1
        self.assertGreater(min(seen.values()), 3, seen)


class ProgramTest(BeatCase):
    def test_written_and_read_back(self):
        chance = random.Random(15)
        for _ in range(60):
            node, _ = sound_node(chance, chance.randint(1, 20))
            self.assert_exact(read_node(show_node(node)).told(), node.told())
            program = Program([node])
            for other in (read_program(show_program(program)), program_of(program.told())):
                self.assert_exact(other.told(), program.told())

    def test_a_node_written_out_runs_as_its_parts_do_by_hand(self):
        program = read_program(PROGRAM)
        self.assert_exact(read_program(show_program(program)).told(), program.told())
        out = written_out(program, "top")
        rows = [{"a": a, "r": r} for a, r in [(2, False), (3, False), (2, False), (1, True), (5, False), (1, False)]]
        told, faults = run_by_asking(out, rows)
        self.assertIsNone(faults)
        self.assert_exact([row["n"] for row in told], [2, 5, 7, 0, 5, 6])
        self.assert_exact([row.get("y") for row in told], [None, 5, 7, None, 5, None])
        self.assert_exact([row.get("u") for row in told], [None, 5, 12, None, 17, None])
        self.assert_exact([row["s"] for row in told], [-1, 5, 12, 12, 17, 17])
        self.assert_exact([row["t"] for row in told], [-1, 5, 5, 5, 17, 17])
        self.assert_exact(clocks_of(out)["u.p"], ("o",))
        self.assert_exact(run_loop(out, rows), (told, None))
        self.assertEqual(list(Loop(out).cells()), ["n.p", "u.p", "s", "t"])

    def test_equal_answers_of_what_was_made_alike(self):
        one, other = [Asker(written_out(read_program(PROGRAM), "top")) for _ in range(2)]
        for asker in (one, other):
            self.assertIs(asker.give({"a": 3, "r": False}), True)
        self.assert_exact(one.row(0), other.row(0))


if __name__ == "__main__":
    unittest.main()
