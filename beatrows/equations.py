"""Rows: equations of seven kinds, told as tuples."""

from beatrows.errors import NoEquation, NoTerm
from beatrows.terms import term_of
from beatrows.words import each_once, is_name, is_pointed, is_value, name_for, value_text


class Equation:
    """Any equation; only objects of the seven classes below are made, and these tell all by themselves."""

    def told(self):
        raise NotImplementedError("told by the classes below")

    def tells(self):
        raise NotImplementedError("told by the classes below")

    def names(self):
        raise NotImplementedError("told by the classes below")

    def term(self):
        raise NotImplementedError("told by the classes below")

    def is_call(self):
        raise NotImplementedError("told by the classes below")

    def renamed(self, names):
        raise NotImplementedError("told by the classes below")

    def words(self):
        raise NotImplementedError("told by the classes below")


class Plain(Equation):
    """x = T"""

    def __init__(self, name, term):
        self._name = name
        self._term = term

    def told(self):
        return ("plain", self._name, self._term.told())

    def tells(self):
        return [self._name]

    def names(self):
        return self._term.names()

    def term(self):
        return self._term

    def is_call(self):
        return False

    def renamed(self, names):
        return Plain(name_for(self._name, names), self._term.renamed(names))

    def words(self):
        return f"{self._name} = {self._term.words()}"


class Before(Equation):
    """x = before V a"""

    def __init__(self, name, value, other):
        self._name = name
        self._value = value
        self._other = other

    def told(self):
        return ("before", self._name, self._value, self._other)

    def tells(self):
        return [self._name]

    def names(self):
        return [self._other]

    def term(self):
        return None

    def is_call(self):
        return False

    def renamed(self, names):
        return Before(name_for(self._name, names), self._value, name_for(self._other, names))

    def words(self):
        return f"{self._name} = before {value_text(self._value)} {self._other}"


class When(Equation):
    """x = a when c"""

    def __init__(self, name, one, other):
        self._name = name
        self._one = one
        self._other = other

    def told(self):
        return ("when", self._name, self._one, self._other)

    def tells(self):
        return [self._name]

    def names(self):
        return each_once([self._one, self._other])

    def term(self):
        return None

    def is_call(self):
        return False

    def renamed(self, names):
        return When(name_for(self._name, names), name_for(self._one, names), name_for(self._other, names))

    def words(self):
        return f"{self._name} = {self._one} when {self._other}"


class Hold(Equation):
    """x = hold V a"""

    def __init__(self, name, value, other):
        self._name = name
        self._value = value
        self._other = other

    def told(self):
        return ("hold", self._name, self._value, self._other)

    def tells(self):
        return [self._name]

    def names(self):
        return [self._other]

    def term(self):
        return None

    def is_call(self):
        return False

    def renamed(self, names):
        return Hold(name_for(self._name, names), self._value, name_for(self._other, names))

    def words(self):
        return f"{self._name} = hold {value_text(self._value)} {self._other}"


class Like(Equation):
    """x = V like a"""

    def __init__(self, name, value, other):
        self._name = name
        self._value = value
        self._other = other

    def told(self):
        return ("like", self._name, self._value, self._other)

    def tells(self):
        return [self._name]

    def names(self):
        return [self._other]

    def term(self):
        return None

    def is_call(self):
        return False

    def renamed(self, names):
        return Like(name_for(self._name, names), self._value, name_for(self._other, names))

    def words(self):
        return f"{self._name} = {value_text(self._value)} like {self._other}"


class Same(Equation):
    """same a c"""

    def __init__(self, names):
        self._names = names

    def told(self):
        return ("same", self._names)

    def tells(self):
        return []

    def names(self):
        return each_once(self._names)

    def term(self):
        return None

    def is_call(self):
        return False

    def renamed(self, names):
        return Same(_names_for(self._names, names))

    def words(self):
        return " ".join(["same", *self._names])


class Call(Equation):
    """x y = call N a c"""

    def __init__(self, outs, node, given):
        self._outs = outs
        self._node = node
        self._given = given

    def told(self):
        return ("call", self._outs, self._node, self._given)

    def tells(self):
        return list(self._outs)

    def names(self):
        return each_once(self._given)

    def term(self):
        return None

    def is_call(self):
        return True

    def renamed(self, names):
        return Call(_names_for(self._outs, names), self._node, _names_for(self._given, names))

    def words(self):
        return " ".join([*self._outs, "=", "call", self._node, *self._given])


def equation_of(told):
    """The equation that any thing tells; refused with NoEquation of the whole thing."""
    equation = _made_of(told)
    if equation is None:
        raise NoEquation(told)
    return equation


def _made_of(told):
    """The equation that any thing tells, None where it tells none."""
    if not isinstance(told, tuple) or not told:
        return None
    shape = (told[0], len(told))
    if shape == ("plain", 3):
        return _plain_of(told[1], told[2])
    if shape == ("when", 4) and _are_names(told[1:], 3):
        return When(told[1], told[2], told[3])
    if shape == ("same", 2) and _are_names(told[1], 2):
        return Same(told[1])
    if shape == ("call", 4):
        return _call_of(told[1], told[2], told[3])
    if len(told) == 4:
        return _valued_of(told[0], told[1], told[2], told[3])
    return None


def _plain_of(name, told):
    if not is_pointed(name):
        return None
    try:
        return Plain(name, term_of(told))
    except NoTerm:
        return None


def _call_of(outs, node, given):
    if not _are_names(outs, 1) or not is_name(node) or not _are_names(given, 1):
        return None
    return Call(outs, node, given)


def _valued_of(word, name, value, other):
    if not is_pointed(name) or not is_value(value) or not is_pointed(other):
        return None
    if word == "before":
        return Before(name, value, other)
    if word == "hold":
        return Hold(name, value, other)
    if word == "like":
        return Like(name, value, other)
    return None


def _are_names(things, least):
    if not isinstance(things, tuple) or len(things) < least:
        return False
    return all([is_pointed(thing) for thing in things])


def _names_for(old, names):
    return tuple([name_for(name, names) for name in old])
