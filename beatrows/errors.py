"""The refusals: one class for each kind, all straight under BeatError."""


class BeatError(ValueError):
    """Any refusal."""

    def __init__(self, text):
        ValueError.__init__(self, text)


class NoNumber(BeatError):
    """What should be a number is none."""

    def __init__(self, found):
        BeatError.__init__(self, "no number")
        self.found = found


class NoValue(BeatError):
    """What should be a value is none."""

    def __init__(self, found):
        BeatError.__init__(self, "no value")
        self.found = found


class NoName(BeatError):
    """What should be a name is none."""

    def __init__(self, found):
        BeatError.__init__(self, "no name")
        self.found = found


class NoTerm(BeatError):
    """What should be a term, or a part of one, is none."""

    def __init__(self, found):
        BeatError.__init__(self, "no term")
        self.found = found


class NoEquation(BeatError):
    """What should tell an equation tells none."""

    def __init__(self, found):
        BeatError.__init__(self, "no equation")
        self.found = found


class NoNode(BeatError):
    """What should be a node, or a part of one, is none."""

    def __init__(self, found):
        BeatError.__init__(self, "no node")
        self.found = found


class NoProgram(BeatError):
    """What should be a program is none."""

    def __init__(self, found):
        BeatError.__init__(self, "no program")
        self.found = found


class NoText(BeatError):
    """A text can't be read; at is the number of what can't stand."""

    def __init__(self, at):
        BeatError.__init__(self, "a text that can't be read")
        self.at = at


class Twice(BeatError):
    """A name stands twice where it may stand once."""

    def __init__(self, name):
        BeatError.__init__(self, "a name told twice")
        self.name = name


class Unknown(BeatError):
    """A name isn't known where it is asked for."""

    def __init__(self, name):
        BeatError.__init__(self, "an unknown name")
        self.name = name


class NoOut(BeatError):
    """An out is told by no row."""

    def __init__(self, name):
        BeatError.__init__(self, "an out that no row tells")
        self.name = name


class NoRead(BeatError):
    """A plain row mentions no name."""

    def __init__(self, name):
        BeatError.__init__(self, "a plain row that mentions no name")
        self.name = name


class TooMany(BeatError):
    """A node would have too many names."""

    def __init__(self, many):
        BeatError.__init__(self, "too many names")
        self.many = many


class NoFit(BeatError):
    """Two clocks can't fit."""

    def __init__(self, paper):
        BeatError.__init__(self, "clocks that don't fit")
        self.paper = paper


class NoClock(BeatError):
    """A name is on no clock."""

    def __init__(self, name):
        BeatError.__init__(self, "a name without a clock")
        self.name = name


class Ring(BeatError):
    """Names read each other within one beat."""

    def __init__(self, paper):
        BeatError.__init__(self, "a ring of names")
        self.paper = paper


class Hidden(BeatError):
    """An out's clock has a label that is no input and no out."""

    def __init__(self, name, other):
        BeatError.__init__(self, "a hidden label")
        self.name = name
        self.other = other


class NoArgs(BeatError):
    """A call has not as many names as the called node."""

    def __init__(self, name, many):
        BeatError.__init__(self, "a call of the wrong size")
        self.name = name
        self.many = many


class NoCall(BeatError):
    """A node is called that can't be called there."""

    def __init__(self, name):
        BeatError.__init__(self, "a call that can't stand")
        self.name = name


class NoInput(BeatError):
    """An input has no value at a beat."""

    def __init__(self, name, beat):
        BeatError.__init__(self, "an input without a value")
        self.name = name
        self.beat = beat


class NotYet(BeatError):
    """Something isn't told as an input is lacking."""

    def __init__(self, name, other):
        BeatError.__init__(self, "not yet told")
        self.name = name
        self.other = other


class NoBeats(BeatError):
    """What should be beats, or a beat, is none."""

    def __init__(self, found):
        BeatError.__init__(self, "no beats")
        self.found = found


class NoCells(BeatError):
    """What should be cells is none."""

    def __init__(self, found):
        BeatError.__init__(self, "no cells")
        self.found = found


class NoOrder(BeatError):
    """What should be an order is none."""

    def __init__(self, found):
        BeatError.__init__(self, "no order")
        self.found = found


class NoLine(BeatError):
    """What should be a line is none."""

    def __init__(self, line):
        BeatError.__init__(self, "no line")
        self.line = line
