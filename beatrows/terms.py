"""Terms: names, values, two terms with an operator, nots and picks."""

from beatrows.errors import BeatError, NoName, NoTerm, NoValue
from beatrows.sums import contrary, ops_told, reckoned
from beatrows.words import each_once, is_pointed, is_value, name_for, value_text

LEVELS = 5


class Term:
    """Any term; only objects of the five classes below are made, and these tell all by themselves."""

    def names(self):
        raise NotImplementedError("told by the classes below")

    def levels(self):
        raise NotImplementedError("told by the classes below")

    def reckoned_by(self, values):
        raise NotImplementedError("told by the classes below")

    def renamed(self, names):
        raise NotImplementedError("told by the classes below")

    def told(self):
        raise NotImplementedError("told by the classes below")

    def words(self):
        raise NotImplementedError("told by the classes below")


class Name(Term):
    """A pointed name."""

    def __init__(self, name):
        if not is_pointed(name):
            raise NoName(name)
        self._name = name

    def names(self):
        return [self._name]

    def levels(self):
        return 1

    def reckoned_by(self, values):
        return (values(self._name), None)

    def renamed(self, names):
        return Name(name_for(self._name, names))

    def told(self):
        return ("name", self._name)

    def words(self):
        return self._name


class Value(Term):
    """A value."""

    def __init__(self, value):
        if not is_value(value):
            raise NoValue(value)
        self._value = value

    def names(self):
        return []

    def levels(self):
        return 1

    def reckoned_by(self, values):
        return (self._value, None)

    def renamed(self, names):
        return self

    def told(self):
        return ("value", self._value)

    def words(self):
        return value_text(self._value)


class Two(Term):
    """Two terms with an operator between."""

    def __init__(self, op, one, other):
        if op not in ops_told():
            raise NoTerm(op)
        self._op = op
        self._one = _inner(one)
        self._other = _inner(other)

    def names(self):
        return each_once(self._one.names() + self._other.names())

    def levels(self):
        return 1 + max(self._one.levels(), self._other.levels())

    def reckoned_by(self, values):
        one, word = self._one.reckoned_by(values)
        if word is not None:
            return (None, word)
        other, word = self._other.reckoned_by(values)
        if word is not None:
            return (None, word)
        return reckoned(self._op, one, other)

    def renamed(self, names):
        return Two(self._op, self._one.renamed(names), self._other.renamed(names))

    def told(self):
        return ("two", self._op, self._one.told(), self._other.told())

    def words(self):
        return f"( {self._one.words()} {self._op} {self._other.words()} )"


class Not(Term):
    """The not of a term."""

    def __init__(self, one):
        self._one = _inner(one)

    def names(self):
        return self._one.names()

    def levels(self):
        return 1 + self._one.levels()

    def reckoned_by(self, values):
        one, word = self._one.reckoned_by(values)
        if word is not None:
            return (None, word)
        return contrary(one)

    def renamed(self, names):
        return Not(self._one.renamed(names))

    def told(self):
        return ("not", self._one.told())

    def words(self):
        return f"( ! {self._one.words()} )"


class Pick(Term):
    """One of two terms, picked by a third."""

    def __init__(self, by, one, other):
        self._by = _inner(by)
        self._one = _inner(one)
        self._other = _inner(other)

    def names(self):
        return each_once(self._by.names() + self._one.names() + self._other.names())

    def levels(self):
        return 1 + max(self._by.levels(), self._one.levels(), self._other.levels())

    def reckoned_by(self, values):
        # Both sides are reckoned, so the one that isn't picked faults, too.
        came = []
        for term in (self._by, self._one, self._other):
            value, word = term.reckoned_by(values)
            if word is not None:
                return (None, word)
            came.append(value)
        by, one, other = came
        if not isinstance(by, bool):
            return (None, "kind")
        return (one if by else other, None)

    def renamed(self, names):
        return Pick(self._by.renamed(names), self._one.renamed(names), self._other.renamed(names))

    def told(self):
        return ("pick", self._by.told(), self._one.told(), self._other.told())

    def words(self):
        return f"( {self._by.words()} ? {self._one.words()} : {self._other.words()} )"


def term_of(told):
    """The term that any thing tells; refused with NoTerm of the whole thing."""
    try:
        return _made_of(told)
    except BeatError:
        raise NoTerm(told) from None


def _inner(thing):
    if not isinstance(thing, (Name, Value, Two, Not, Pick)) or thing.levels() == LEVELS:
        raise NoTerm(thing)
    return thing


def _made_of(told):
    """Likewise, but refused as the part is that is wrong."""
    if not isinstance(told, tuple) or not told:
        raise NoTerm(told)
    shape = (told[0], len(told))
    if shape == ("name", 2):
        return Name(told[1])
    if shape == ("value", 2):
        return Value(told[1])
    if shape == ("not", 2):
        return Not(_made_of(told[1]))
    if shape == ("two", 4):
        return Two(told[1], _made_of(told[2]), _made_of(told[3]))
    if shape == ("pick", 4):
        return Pick(_made_of(told[1]), _made_of(told[2]), _made_of(told[3]))
    raise NoTerm(told)
