"""Instances of nodes, with one of its own for each call: what a part goes on by, beat by beat.

What a name is at a beat is told as in beatrows.asking: by a word, and by a
value or another word.
"""

from beatrows.asking import is_gone, state_by
from beatrows.loops import kept_of
from beatrows.orders import order_by_reads
from beatrows.reading import ways_from
from beatrows.summaries import clocks_within, known_with, reads_within, seen_by_call


class Site:
    """A call in a node: how the names of the called node are called there."""

    def __init__(self, call, known, truths):
        _, outs, self.called, given = call.told()
        inputs, summary = known[self.called]
        self.places = inputs
        self.first = outs[0]
        # All args are on one clock.
        self.truth = truths[given[0]]
        self.seen = seen_by_call(call, inputs, [out for out, _, _, _ in summary])
        self.inner = {self.seen[out]: out for out, _, _, _ in summary}

    def outer(self, found):
        """A dict with names of the called node written out, inputs left out, under the names that they have here."""
        return {self.seen.get(name, f"{self.first}.{name}"): found[name] for name in found if name not in self.places}


class Plan:
    """What all instances of one node have in common."""

    def __init__(self, node, known):
        clocks = clocks_within(node, known)
        self.node = node
        self.reads = reads_within(node, clocks, known)
        self.order = order_by_reads(self.reads)
        self.truths = {name: clocks[name][-1] if clocks[name] else None for name in clocks}
        self.kept = kept_of(node)
        self.hangs = {out: hangs for out, _, _, hangs in known[node.name][1]}
        self.needed = {out: self.reached_in_order(out) for out in node.outs()}
        # For each row the call that it is, or None.
        self.sites = [Site(row, known, self.truths) if row.is_call() else None for row in node.rows()]
        self.site_of = {name: site for site in self.sites if site is not None for name in site.inner}

    def reached_in_order(self, out):
        """The names to which a way leads from an out, each behind all that it reads."""
        came = ways_from(self.reads, out)
        return [name for name in self.order if name in came]


class Instance:
    """A node that goes on beat by beat; whoever has it sees to it that each deed is due."""

    def __init__(self, plans, name):
        self._plan = plans[name]
        self._inner = {site.first: Instance(plans, site.called) for site in self._plan.sites if site is not None}
        self._cells = {kept: value for kept, (value, _) in self._plan.kept.items()}
        self._ticks = None
        self._begun = {}
        self._states = {}
        self._told = {}

    def begin(self, ticks):
        """A new beat: whether the clock of the inputs ticks at it, None where this can't be told."""
        self._ticks = ticks
        self._begun = {}
        self._states = {}

    def lacks(self, name):
        """Whether an input is still to be given at this beat."""
        return self._ticks is True and name not in self._states

    def give(self, name, value):
        """The value of an input at this beat, None where it is lost."""
        self._states[name] = ("lost", None) if value is None else ("value", value)

    def lacking(self, out):
        """Those inputs on which an out hangs that are still to be given."""
        return [name for name in self._plan.hangs[out] if self.lacks(name)]

    def state(self, out):
        """What an out is at this beat, where no input is lacking for it."""
        self._reckon(self._plan.needed[out])
        return self._states[out]

    def faults(self):
        """The word of each name that faults at this beat, where no input is lacking; also of names within."""
        self._reckon(self._plan.order)
        found = {}
        for row, site in zip(self._plan.node.rows(), self._plan.sites):
            if site is None:
                found.update({name: self._states[name][1] for name in row.tells() if self._states[name][0] == "fault"})
            else:
                inner = self._inner_begun(site)
                self._pass_on(site, [name for name in site.places if inner.lacks(name)])
                found.update(site.outer(inner.faults()))
        return found

    def keep(self):
        """Ends a beat without faults: befores and holds keep what is told of it, and so do those within."""
        for name, (_, other) in self._plan.kept.items():
            if self._states[other][0] == "value":
                self._cells[name] = self._states[other][1]
        self._told = self._states
        for inner in self._inner.values():
            inner.keep()

    def row(self):
        """The values at the latest kept beat, under the names of the node written out, in its order."""
        found = self._values_told(self._plan.node.inputs())
        for row, site in zip(self._plan.node.rows(), self._plan.sites):
            if site is None:
                found.update(self._values_told(row.tells()))
            else:
                found.update(site.outer(self._inner[site.first].row()))
        return found

    def cells(self):
        """What befores and holds have kept, likewise."""
        found = {}
        for row, site in zip(self._plan.node.rows(), self._plan.sites):
            if site is None:
                found.update({name: self._cells[name] for name in row.tells() if name in self._cells})
            else:
                found.update(site.outer(self._inner[site.first].cells()))
        return found

    def _values_told(self, names):
        return {name: self._told[name][1] for name in names if self._told[name][0] == "value"}

    def _reckon(self, names):
        """Finds what these names are, each behind all that it reads."""
        for name in names:
            if name not in self._states:
                self._states[name] = self._found(name)

    def _found(self, name):
        if self._ticks is not True:
            return ("lost" if self._ticks is None else "still", None)
        if name in self._plan.site_of:
            site = self._plan.site_of[name]
            inner, out = self._inner_begun(site), site.inner[name]
            self._pass_on(site, inner.lacking(out))
            return inner.state(out)
        row, reads = self._plan.node.teller(name), self._plan.reads[name]
        return state_by(self._plan.truths[name], row, reads, self._states, lambda told: self._cells[told[1]])

    def _inner_begun(self, site):
        """The instance of a call, with this beat begun."""
        inner = self._inner[site.first]
        if site.first not in self._begun:
            self._begun[site.first] = True
            inner.begin(self._ticks_of(site.truth))
        return inner

    def _ticks_of(self, truth):
        """Whether a clock ticks of which this is the last name, None where this can't be told."""
        if truth is None:
            return self._ticks
        return None if is_gone(self._states[truth]) else self._states[truth][1] is True

    def _pass_on(self, site, names):
        """Gives these inputs of a call's instance what the args are."""
        for name in names:
            word, value = self._states[site.seen[name]]
            self._inner[site.first].give(name, value if word == "value" else None)


def instance_of(program, name):
    """An instance of a node; of any thing, refused as its summary is."""
    known = known_with(program, name)
    plans = {each: Plan(program.named(each), known) for each in known}
    return Instance(plans, name)
