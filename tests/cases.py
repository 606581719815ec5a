"""What the tests share: a case that looks at refusals, and things of every kind."""

import inspect
import unittest

from beatrows.clocks import clocks_of
from beatrows.equations import equation_of
from beatrows.errors import BeatError, Hidden, NoClock, NoFit, NoName, NoText, Ring
from beatrows.nodes import Node
from beatrows.orders import need_sound
from beatrows.programs import Program
from beatrows.telling import summary_of
from beatrows.terms import Name, Not, Pick, Two, Value
from beatrows.writing import how_many


class BeatCase(unittest.TestCase):
    def refusal(self, kind, call, *given):
        """The refusal that a call raises, which must be of just this class."""
        with self.assertRaises(BeatError) as caught:
            call(*given)
        self.assertIs(type(caught.exception), kind)
        return caught.exception

    def assert_refused(self, kind, fields, call, *given):
        """A refusal with these fields, each the very thing or an equal text or number."""
        refusal = self.refusal(kind, call, *given)
        self.assertEqual(list(vars(refusal)), list(fields))
        for field, thing in fields.items():
            self.assert_exact(vars(refusal)[field], thing)

    def assert_exact(self, found, wanted):
        """Equal, and of one kind throughout: True is no 1, a list no tuple."""
        if found is not wanted:
            self.assertEqual(repr(found), repr(wanted))
            self.assertEqual(found, wanted)

    def assert_own_methods(self, kind, methods):
        """The class defines each method in its own body, with just these parameters behind self."""
        for method, wanted in methods.items():
            self.assertIn(method, vars(kind), kind)
            taken = inspect.getfullargspec(vars(kind)[method])
            self.assertEqual(taken, (["self", *wanted], None, None, None, [], None, {}), f"{kind} {method}")

    def assert_new_list(self, tell, wanted):
        """A list that is told anew each time."""
        told = tell()
        self.assertIs(type(told), list)
        self.assertEqual(told, wanted)
        told.append("more")
        told.reverse()
        self.assertEqual(tell(), wanted)


def nested(many, inner, wrap):
    thing = inner
    for _ in range(many):
        thing = wrap(thing)
    return thing


def no_texts():
    """Things that are no texts, and of no use but to be refused."""
    return [
        None, True, False, 0, 1, -1, 7, 10 ** 9 + 1, -(10 ** 60 - 1), 10 ** 60 - 1,
        [], ["a"], [[]], (), ("a",), ("name",), ((),), {}, {"a": 1}, {1: {}}, {("a",): ["b"]},
        BeatError("text"), NoName(["a"]), NoText(0),
        Name("a"), Value(1), Not(Name("a")), Two("+", Name("a"), Value(1)),
        Pick(Name("a"), Value(1), Value(2)),
        equation_of(("like", "x", 1, "a")), equation_of(("same", ("a", "b"))),
        Node("n", ["a"], ["x"], [("like", "x", 1, "a")]),
        Program([Node("n", ["a"], ["x"], [("like", "x", 1, "a")])]),
        nested(20, "a", lambda thing: [thing]),
        nested(20, "a", lambda thing: (thing,)),
        nested(20, "a", lambda thing: {"a": thing}),
        nested(20, ("name", "a"), lambda thing: ("not", thing)),
        nested(20, ("name", "a"), lambda thing: ("pick", thing, thing, thing)),
        nested(20, ("name", "a"), lambda thing: ("two", "+", thing, thing)),
    ]


def wild_texts():
    """Texts that are no names, no values, no terms and no rows."""
    return [
        "", " ", "\n", ".", "..", "a.", ".a", "a..b", "A", "aB", "a1", "a_b", "a b", "a\n",
        "abcdefghi", "node", "mod", "beat.a", "-", "--1", "+1", "-0", "00", "07", "1.0", "1 ",
        "true ", "True", "None", "1000000001", "9" * 20000, "a" * 20000, "." * 20000, " " * 20000,
    ]


def some_node(chance, many, kinds=("plain", "plain", "before", "when", "hold", "like", "same")):
    """A node of rows of these kinds, by chance; whether it has clocks and an order is another question."""
    inputs = ["a", "b", "c"][:chance.randint(1, 3)]
    told = [f"{'pqrstuvw'[at // 8]}{'pqrstuvw'[at % 8]}" for at in range(many)]
    rows = []
    for at, name in enumerate(told):
        # Mostly names told ahead, so that clocks follow and few rings come.
        near = [*inputs, *inputs, *told[:at]] if chance.random() < 0.85 else [*inputs, *told]
        kind = chance.choice(kinds)
        while kind == "same":
            rows.append(("same", tuple(chance.choices([*inputs, *told], k=chance.randint(2, 3)))))
            kind = chance.choice(kinds)
        rows.append(_some_row(chance, kind, name, near))
    chance.shuffle(rows)
    return Node("n", inputs, chance.sample(told, min(many, chance.randint(1, 3))), rows)


def _some_row(chance, kind, name, near):
    one, other = chance.choice(near), chance.choice(near)
    value = chance.choice([0, 1, -3, 7, True, False, 10 ** 9])
    if kind == "plain":
        return ("plain", name, _some_term(chance, one, other, value))
    if kind == "when":
        return ("when", name, one, other)
    return (kind, name, value, one)


def _some_term(chance, one, other, value):
    one, other = ("name", one), ("name", other)
    return chance.choice([
        one, ("two", "<", one, ("value", 2)), ("two", "=", one, one), ("not", ("two", "<", one, ("value", 1))),
        ("two", chance.choice("+-*/<=&|"), one, ("value", value)), ("two", chance.choice("+-*"), one, other),
        ("two", "mod", one, ("value", 3)), ("pick", ("two", "<", one, ("value", 3)), one, ("value", value)),
    ])


def sound_node(chance, many):
    """A sound node of rows of all kinds on clocks some levels deep; and by name whether it is a truth, as a rule."""
    names = chance.sample([f"{one}{other}" for one in "lmnopqrstuvwxyz" for other in "abcdefghij"], many + 4)
    inputs, told = names[:4], names[4:]
    truths = {name: at % 2 == 0 for at, name in enumerate(inputs)}
    clocks = {(): list(inputs)}
    rows, late = [], []
    for name in told:
        clock = chance.choice(list(clocks))
        kind = chance.choice(["plain", "plain", "plain", "when", "when", "hold", "before", "like"])
        one, other = chance.choice(clocks[clock]), chance.choice(clocks[clock])
        truths[name] = chance.random() < 0.5
        if kind == "plain":
            rows.append(("plain", name, _fitting_term(chance, clocks[clock], truths, truths[name], 2)))
        elif kind == "when":
            other = chance.choice([each for each in clocks[clock] if truths[each]] or clocks[clock])
            rows.append(("when", name, one, other))
            truths[name], clock = truths[one], (*clock, other)
        elif kind == "hold" and clock:
            rows.append(("hold", name, truths[one] if chance.random() < 0.9 else 7, one))
            truths[name], clock = truths[one], clock[:-1]
        elif kind == "like":
            rows.append(("like", name, True if truths[name] else chance.randint(0, 3), one))
        else:
            late.append((name, clock))
        clocks.setdefault(clock, []).append(name)
    # Befores may be fed back, by names that are told behind them.
    for name, clock in late:
        fitting = [each for each in clocks[clock] if truths[each] == truths[name]] or clocks[clock]
        rows.append(("before", name, True if truths[name] else chance.randint(0, 3), chance.choice(fitting)))
    if chance.random() < 0.5:
        rows.append(("same", tuple(chance.choices(clocks[chance.choice(list(clocks))], k=chance.randint(2, 4)))))
    rows = [row for row in rows if _mentions(row)]
    known = {*inputs, *[row[1] for row in rows if row[0] != "same"]}
    chance.shuffle(rows)
    outs = chance.sample(sorted(known - set(inputs)), min(3, len(known) - 4))
    try:
        node = Node("n", inputs, outs, rows)
        need_sound(node)
        return node, truths
    except BeatError:
        return sound_node(chance, many)


def sound_program(chance, nodes, many, most=200):
    """A program of sound nodes that hide nothing and call one another; by node and name whether it is a truth."""
    made, known = [], {}
    while len(made) < nodes:
        try:
            node, truths = _some_caller(chance, "defghijk"[len(made)], known, chance.randint(1, many))
            program = Program([*made, node])
            known[node.name] = (node, truths, summary_of(program, node.name))
        except BeatError:
            continue
        if how_many(program, node.name) <= most:
            made.append(node)
        else:
            del known[node.name]
    return program, {name: truths for name, (_, truths, _) in known.items()}


def _some_caller(chance, name, known, many):
    """A node of rows of all kinds that calls the known ones, sound as a rule."""
    names = chance.sample([f"{one}{other}" for one in "lmnopqrstuvwxyz" for other in "abcdefghij"], 150)
    inputs = [names.pop() for _ in range(chance.randint(1, 4))]
    truths = {each: at % 2 == 0 for at, each in enumerate(chance.sample(inputs, len(inputs)))}
    clocks = {each: () for each in inputs}
    rows, late = [], []
    while len(rows) + len(late) < many:
        clock = chance.choice(list(clocks.values()))
        near = [each for each in clocks if clocks[each] == clock]
        kind = chance.choice(["plain", "plain", "when", "hold", "before", "like", "call", "call", "call", "same"])
        if kind == "same":
            rows.append(("same", tuple(chance.choices(near, k=chance.randint(2, 3)))))
        elif kind == "call" and known:
            rows.append(_some_call(chance, *known[chance.choice(list(known))], near, truths, clocks, names))
        elif kind == "before":
            # It may be fed back, by names that are told behind it.
            late.append(names.pop())
            truths[late[-1]], clocks[late[-1]] = truths[chance.choice(near)], clock
        elif kind != "call" and (kind != "hold" or clock):
            rows.append(_some_row_near(chance, kind, names.pop(), near, truths, clocks))
    for own in late:
        fitting = [each for each in clocks if clocks[each] == clocks[own] and truths[each] == truths[own]]
        rows.append(("before", own, True if truths[own] else chance.randint(0, 3), chance.choice(fitting)))
    chance.shuffle(rows)
    told = [each for each in clocks if each not in inputs]
    outs = chance.sample(told, min(len(told), chance.randint(1, 3)))
    outs += [label for out in outs for label in clocks[out] if label not in inputs]
    return Node(name, inputs, list(dict.fromkeys(outs))[:6], [row for row in rows if _mentions(row)]), truths


def _some_row_near(chance, kind, name, near, truths, clocks):
    """A row of a new name by names that are on one clock."""
    one, clock = chance.choice(near), clocks[near[0]]
    truths[name], clocks[name] = truths[one], clock
    if kind == "plain":
        truths[name] = chance.random() < 0.5
        return ("plain", name, _fitting_term(chance, near, truths, truths[name], 2))
    if kind == "when":
        other = chance.choice([each for each in near if truths[each]] or near)
        clocks[name] = (*clock, other)
        return ("when", name, one, other)
    if kind == "hold":
        clocks[name] = clock[:-1]
        return ("hold", name, truths[one] if chance.random() < 0.9 else 7, one)
    return ("like", name, True if truths[one] else chance.randint(0, 3), one)


def _some_call(chance, node, kinds, summary, near, truths, clocks, names):
    """A call's row, of args that are on one clock."""
    seen = {out: names.pop() for out in node.outs()}
    # An own out may be an arg where it is on the args' clock and doesn't hang on this one.
    own = {each: [seen[out] for out, labels, _, hangs in summary if not labels and each not in hangs]
           for each in node.inputs()}
    for each in node.inputs():
        fitting = [one for one in near if truths[one] == kinds[each]] or near
        seen[each] = chance.choice(own[each] if own[each] and chance.random() < 0.4 else fitting)
    for out, labels, _, _ in summary:
        truths[seen[out]], clocks[seen[out]] = kinds[out], (*clocks[near[0]], *[seen[label] for label in labels])
    return ("call", tuple(seen[out] for out in node.outs()), node.name, tuple(seen[each] for each in node.inputs()))


def _mentions(row):
    return row[0] != "plain" or equation_of(row).names()


def _fitting_term(chance, near, truths, truth, levels):
    """A term that comes to a truth, or to a number, as a rule."""
    fitting = [name for name in near if truths[name] == truth]
    if chance.random() < 0.01:
        fitting = near
    if levels == 0 or chance.random() < 0.2:
        if fitting and chance.random() < 0.8:
            return ("name", chance.choice(fitting))
        return ("value", chance.random() < 0.7 if truth else chance.randint(-2, 4))
    inner = [(chance, near, truths, kind, levels - 1) for kind in (True, False)]
    if chance.random() < 0.15:
        return ("pick", _fitting_term(*inner[0]), _fitting_term(*inner[not truth]), _fitting_term(*inner[not truth]))
    if not truth and chance.random() < 0.2:
        by = _fitting_term(*inner[1]) if chance.random() < 0.2 else ("value", 3)
        return ("two", chance.choice(["/", "mod"]), _fitting_term(*inner[1]), by)
    if not truth:
        return ("two", chance.choice("+-+-*"), _fitting_term(*inner[1]), _fitting_term(*inner[1]))
    if chance.random() < 0.3:
        return ("not", _fitting_term(*inner[0]))
    if chance.random() < 0.5:
        return ("two", "<", _fitting_term(*inner[1]), _fitting_term(*inner[1]))
    return ("two", chance.choice("||&="), _fitting_term(*inner[0]), _fitting_term(*inner[0]))


def some_rows(chance, node, truths, many):
    """So many rows of inputs."""
    rows = []
    for _ in range(many):
        row = {}
        for name in node.inputs():
            truth = truths[name] if chance.random() < 0.995 else not truths[name]
            row[name] = chance.random() < 0.7 if truth else chance.randint(-3, 4)
            if not truth and chance.random() < 0.01:
                row[name] = 10 ** 9
        rows.append(row)
    return rows


def came_to(told, values):
    """What a term's tuple comes to: the value, or the word of the fault in a list."""
    if told[0] == "name":
        return values[told[1]]
    if told[0] == "value":
        return told[1]
    inner = []
    for part in [part for part in told[1:] if isinstance(part, tuple)]:
        inner.append(came_to(part, values))
        if isinstance(inner[-1], list):
            return inner[-1]
    are_truths = [isinstance(value, bool) for value in inner]
    if told[0] == "pick":
        return (inner[1] if inner[0] else inner[2]) if are_truths[0] else ["kind"]
    if told[0] == "not":
        return not inner[0] if are_truths[0] else ["kind"]
    if told[1] == "=":
        return inner[0] == inner[1] if are_truths[0] == are_truths[1] else ["kind"]
    if are_truths != [told[1] in "&|"] * 2:
        return ["kind"]
    if told[1] in ("/", "mod") and inner[1] == 0:
        return ["nought"]
    value = {
        "+": lambda one, other: one + other, "-": lambda one, other: one - other, "*": lambda one, other: one * other,
        "/": lambda one, other: one // other, "mod": lambda one, other: one % other,
        "<": lambda one, other: one < other, "&": lambda one, other: one and other,
        "|": lambda one, other: one or other,
    }[told[1]](*inner)
    return value if abs(value) <= 10 ** 9 else ["great"]


def other_names(chance, program):
    """By node other names for some of its names: exchanged with one another, or new."""
    names = {}
    for node in [program.named(name) for name in program.names()]:
        some = chance.sample(node.names(), chance.randint(0, len(node.names())))
        new = [f"{name}zz" if chance.random() < 0.4 else name for name in chance.sample(some, len(some))]
        if chance.random() < 0.8:
            names[node.name] = dict(zip(some, new))
    return names


class Played:
    """A run of a sound node, worked out name by name from the document's words alone.

    As of a part: an input of a row may be None, which is lost; a row may be
    False or None, where the clock of the inputs is still or can't be told.
    """

    def __init__(self, node, rows):
        self.node, self.rows, self.clocks = node, rows, clocks_of(node)
        self.told, self.faults, self.lost, self.states = [], None, [], []
        while self.faults is None and len(self.told) < len(rows):
            self.known = {}
            states = {name: self.state(name) for name in node.names()}
            faults = sorted((name, value) for name, (word, value) in states.items() if word == "fault")
            self.states.append(states)
            if faults:
                self.faults = (len(self.told), faults)
                self.lost = [name for name, (word, _) in states.items() if word == "lost"]
            else:
                self.told.append({name: value for name, (word, value) in states.items() if word == "value"})

    def state(self, name):
        if name not in self.known:
            self.known[name] = self.found(name)
        return self.known[name]

    def found(self, name):
        clock, row, given = self.clocks[name], self.node.teller(name), self.rows[len(self.told)]
        if given is False or given is None:
            return ("still" if given is False else "lost", None)
        if clock and self.state(clock[-1])[0] in ("lost", "fault"):
            return ("lost", None)
        if clock and (self.state(clock[-1])[0] == "still" or self.state(clock[-1])[1] is not True):
            return ("still", None)
        if row is None:
            return ("lost", None) if given[name] is None else ("value", given[name])
        kind, told = row.told()[0], row.told()
        if kind == "like":
            return ("value", told[2])
        if kind == "before":
            return ("value", self.latest(told[3], told[2]))
        if any(self.state(each)[0] in ("lost", "fault") for each in row.names()):
            return ("lost", None)
        if kind == "hold":
            word, value = self.state(told[3])
            return ("value", value if word == "value" else self.latest(told[3], told[2]))
        if any(self.state(each)[0] == "still" for each in row.names()):
            raise AssertionError(f"{name} reads what is still")
        if kind == "when":
            return self.state(told[2])
        value = came_to(told[2], {each: self.state(each)[1] for each in row.names()})
        return ("fault", value[0]) if isinstance(value, list) else ("value", value)

    def latest(self, name, value):
        had = [row[name] for row in self.told if name in row]
        return had[-1] if had else value


def spoilt(chance, thing, node):
    """The thing with something in it put otherwise, by chance; sometimes nothing that matters."""
    some = [*node.names(), None, (), ("a",), [], "two", "hold", "same", True, 0, "none", ["a"], {"a": 1}]
    if isinstance(thing, (list, tuple)) and thing and chance.random() < 0.9:
        inner = list(thing)
        at = chance.randrange(len(inner))
        deed = chance.choice(["in", "in", "in", "in", "in", "out", "twice", "move", "kind"])
        if deed == "in":
            inner[at] = spoilt(chance, inner[at], node)
        elif deed == "out":
            inner.pop(at)
        elif deed == "twice":
            inner.insert(chance.randrange(len(inner) + 1), inner[at])
        elif deed == "move":
            inner.insert(chance.randrange(len(inner)), inner.pop(at))
        else:
            return tuple(inner) if isinstance(thing, list) else inner
        return type(thing)(inner)
    return chance.choice(some)


class Fitted:
    """What each node of a program tells of itself, worked out from the document's words alone.

    A node whose nodes below are refused is in none of the dicts.
    """

    def __init__(self, program):
        self.program = program
        self.clocks, self.reads, self.summaries, self.refusals = {}, {}, {}, {}
        for name in program.names():
            if all(each in self.summaries for each in program.below(name)):
                self.refusals[name] = self.refusal_of(program.named(name))

    def refusal_of(self, node):
        """The kind of the refusal and what stands in it (of NoFit the words that there are), None where it is sound."""
        steps = self.steps(node, node.inputs())
        found = {name: [clock for other, clock in steps if other == name] for name in node.names()}
        rows = [row.told() for row in node.rows()]
        words = {"two"} if any(len(clocks) > 1 for clocks in found.values()) else set()
        if any(row[0] == "hold" and () in found[row[3]] for row in rows):
            words.add("hold")
        if words:
            return (NoFit, words)
        for name in node.names():
            if not found[name]:
                return (NoClock, name)
        clocks = {name: one for name, (one,) in found.items()}
        for row in rows:
            if row[0] in ("same", "call") and len({clocks[name] for name in row[-1]}) > 1:
                return (NoFit, {"same"})
        self.clocks[node.name] = clocks
        reads = self.reads[node.name] = {name: self.read_by(node, clocks, name) for name in node.names()}
        reached = {name: self.reached(reads, name) for name in reads}
        if any(name in reached[other] for name in reads for other in reads[name]):
            return (Ring, {name for name in reads if any(name in reached[other] for other in reads[name])})
        for out in node.outs():
            for label in clocks[out]:
                if label not in node.inputs() + node.outs():
                    return (Hidden, (out, label))
        self.summaries[node.name] = tuple(
            (out, clocks[out], tuple(one for one in node.inputs() if (out, clocks[out]) in self.steps(node, [one])),
             tuple(one for one in node.inputs() if one in reached[out]))
            for out in node.outs()
        )
        return None

    def steps(self, node, firsts):
        """Each (name, clock) that follows from these inputs; long clocks are left out."""
        found = [(name, ()) for name in firsts]
        for name, clock in found:
            for row in node.rows():
                for step in self.led(row, name, clock):
                    if step not in found and len(step[1]) < 15:
                        found.append(step)
        return found

    def led(self, row, name, clock):
        told = row.told()
        if told[0] == "same" or name not in row.names():
            return []
        if told[0] == "when":
            return [(told[1], (*clock, told[3]))]
        if told[0] == "hold":
            return [(told[1], clock[:-1])] if clock else []
        if told[0] != "call":
            return [(told[1], clock)]
        seen = self.seen(told)
        return [(seen[out], (*clock, *[seen[label] for label in labels]))
                for out, labels, follows, _ in self.summaries[told[2]] if name in [seen[each] for each in follows]]

    def seen(self, told):
        called = self.program.named(told[2])
        return dict(zip(called.inputs() + called.outs(), told[3] + told[1]))

    def read_by(self, node, clocks, name):
        row, found = node.teller(name), set(clocks[name][-1:])
        if row is not None and row.is_call():
            seen = self.seen(row.told())
            for out, _, _, hangs in self.summaries[row.told()[2]]:
                if seen[out] == name:
                    found |= {seen[each] for each in hangs}
        elif row is not None and row.told()[0] in ("plain", "when", "hold"):
            found |= set(row.names())
        return [each for each in node.names() if each in found]

    def reached(self, reads, name):
        found = [name]
        for each in found:
            found += [other for other in reads[each] if other not in found]
        return found


def spoilt_program(chance, program):
    """The program with something in one of its nodes put otherwise."""
    while True:
        nodes = [list(told) for told in program.told()]
        node = chance.choice(nodes)
        names = Node(*node).names()
        rows = list(node[3])
        at = chance.randrange(len(rows))
        deed = chance.choice(["mention", "mention", "mention", "same", "outs", "when", "hold", "self"])
        row = equation_of(rows[at])
        if deed == "mention":
            changed = {chance.choice(row.names()): chance.choice(names)}
            rows[at] = row.renamed({**{name: name for name in names}, **changed}).told()
        elif deed == "same":
            rows.append(("same", tuple(chance.choices(names, k=2))))
        elif deed == "outs":
            node[2] = tuple(chance.sample(names, len(node[2])))
        elif deed == "self":
            rows.append(("plain", "zzz", ("two", "+", ("name", "zzz"), ("name", chance.choice(names)))))
        else:
            rows.append(("when", "zzz", *chance.choices(names, k=2)) if deed == "when" else
                        ("hold", "zzz", 0, chance.choice(names)))
        node[3] = tuple(rows)
        try:
            return Program([Node(*told) for told in nodes])
        except BeatError:
            pass
