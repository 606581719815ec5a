"""Kinds of things: whole numbers, names, values, and how a value is written."""

from beatrows.errors import NoName

_OWN_WORDS = (
    "node", "in", "out", "before", "when", "hold", "like",
    "same", "call", "true", "false", "mod", "beat", "desk",
)
_LETTERS = "abcdefghijklmnopqrstuvwxyz"
_FIGURES = "0123456789"
_NAME_SIGNS = 8
_POINTED_SIGNS = 80
_GREATEST = 10 ** 9
_GREATEST_SIGNS = 10


def is_whole(thing):
    """Whether any thing is a whole number; a truth is none."""
    return isinstance(thing, int) and not isinstance(thing, bool)


def is_within(thing, low, high):
    """Whether any thing is a whole number from low to high, both within."""
    return is_whole(thing) and low <= thing <= high


def is_name(thing):
    """Whether any thing is a name: one to eight small letters, and no own word."""
    if not isinstance(thing, str) or not 1 <= len(thing) <= _NAME_SIGNS:
        return False
    return thing not in _OWN_WORDS and all([sign in _LETTERS for sign in thing])


def is_pointed(thing):
    """Whether any thing is a pointed name: names with a point between any two."""
    if not isinstance(thing, str) or len(thing) > _POINTED_SIGNS:
        return False
    return all([is_name(part) for part in thing.split(".")])


def is_value(thing):
    """Whether any thing is a value: a truth, or a whole number within the bounds."""
    return isinstance(thing, bool) or is_within(thing, -_GREATEST, _GREATEST)


def are_alike(one, other):
    """Whether any thing is the same as a value, or as a word; a truth is no number."""
    return is_whole(one) == is_whole(other) and one == other


def own_words():
    """The words that are no names, as a new list."""
    return list(_OWN_WORDS)


def value_text(value):
    """The text that writes a value."""
    if isinstance(value, bool):
        return "true" if value else "false"
    return str(value)


def value_of(thing):
    """The value that any thing writes, None where it writes none."""
    if not isinstance(thing, str):
        return None
    if thing in ("true", "false"):
        return thing == "true"
    if not _is_number_text(thing):
        return None
    number = int(thing)
    return number if is_value(number) else None


def _is_number_text(text):
    # Measured ahead of int(), which fails by itself on thousands of figures.
    figures = text.removeprefix("-")
    if not 1 <= len(figures) <= _GREATEST_SIGNS:
        return False
    if figures.startswith("0") and text != "0":
        return False
    return all([sign in _FIGURES for sign in figures])


def each_once(names):
    """The names, each at its first place alone, as a new list."""
    return list({name: True for name in names})


def name_for(name, names):
    """The pointed name that the dict has for this one; refused with NoName."""
    if name not in names:
        raise NoName(name)
    if not is_pointed(names[name]):
        raise NoName(names[name])
    return names[name]
