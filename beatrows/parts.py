"""Parts: nodes that are given their inputs one by one, and told as soon as can be."""

from beatrows.asking import BEATS
from beatrows.errors import NoBeats, NotYet, NoValue, Twice, Unknown
from beatrows.instances import instance_of
from beatrows.words import is_value


class Part:
    """An instance of a node of a program, which goes on beat by beat."""

    def __init__(self, program, name):
        self._instance = instance_of(program, name)
        self._node = program.named(name)
        self._beats = 0
        self._is_open = False
        self._is_over = False
        self._ticks = None

    def begin(self, ticks):
        """Opens a beat: True where the clock of the inputs ticks, False where it is still, None where it is lost."""
        if ticks is not True and ticks is not False and ticks is not None:
            raise NoBeats(ticks)
        if self._is_open or self._is_over or self._beats == BEATS:
            raise NoBeats(self._beats)
        self._is_open = True
        self._ticks = ticks
        self._instance.begin(ticks)

    def give(self, name, value):
        """The value of an input at this beat, None where it is lost; of any things."""
        if not self._is_open or self._ticks is not True:
            raise NoBeats(self._beats)
        if name not in self._node.inputs():
            raise Unknown(name)
        if not self._instance.lacks(name):
            raise Twice(name)
        if value is not None and not is_value(value):
            raise NoValue(value)
        self._instance.give(name, value)

    def lacking(self, out):
        """Those inputs on which an out hangs that aren't given yet; of any thing."""
        if not self._is_open:
            raise NoBeats(self._beats)
        if out not in self._node.outs():
            raise Unknown(out)
        return self._instance.lacking(out)

    def tell(self, out):
        """What an out is at this beat: a word, and a value or the word of a fault; of any thing."""
        lacking = self.lacking(out)
        if lacking:
            raise NotYet(out, lacking[0])
        return self._instance.state(out)

    def close(self):
        """Ends the beat; tells all names that fault at it."""
        if not self._is_open:
            raise NoBeats(self._beats)
        for name in self._node.inputs():
            if self._instance.lacks(name):
                raise NotYet(self._node.name, name)
        faults = sorted(self._instance.faults().items())
        self._is_open = False
        if faults:
            self._is_over = True
        else:
            self._instance.keep()
            self._beats += 1
        return faults

    def beats(self):
        """How many beats are closed without faults."""
        return self._beats

    def row(self):
        """The values at the latest closed beat, by the names of the node written out, in its order."""
        if self._beats == 0:
            raise NoBeats(0)
        return self._instance.row()

    def cells(self):
        """What befores and holds have kept, likewise."""
        return self._instance.cells()
