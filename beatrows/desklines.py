"""The lines that a desk is told: which there are, and what they tell."""

from beatrows.errors import NoLine, Twice
from beatrows.words import is_name, is_pointed, is_within, value_of

# What stands behind the first word of a line; some of it again and again.
_FIXED = {
    "rows": (), "clear": (), "read": (), "nodes": (), "beats": (), "faults": (), "cells": (),
    "show": ("name",), "write": ("name",), "below": ("name",), "clocks": ("name",), "order": ("name",),
    "tells": ("name",), "needs": ("name",), "ask": ("name",), "loop": ("name",), "part": ("name",),
    "title": ("name", "name"), "name": ("name", "name", "name"), "value": ("pointed", "number"),
    "turn": ("name",), "sort": (), "beat": (), "stand": (),
}
_AGAIN = {"turn": ("number",), "sort": ("number",), "beat": ("name", "value"), "stand": ("pointed", "value")}
_GREATEST = 10 ** 9


def line_of(thing):
    """The first word of a line, and the list of what stands behind it; of any thing, refused with NoLine."""
    if not isinstance(thing, str) or "\n" in thing:
        raise NoLine(thing)
    word, *words = thing.split(" ")
    found = _told_by(word, words)
    if "" in words or found is None:
        raise NoLine(thing)
    return (word, found)


def pairs_of(told):
    """A dict from each name that a line tells to the value behind it; refused with Twice."""
    found = {}
    for name, value in zip(told[::2], told[1::2]):
        if name in found:
            raise Twice(name)
        found[name] = value
    return found


def _told_by(word, words):
    """What the words behind the first one tell, None where there is no such line."""
    if word == "row":
        return [" ".join(words)] if words else None
    if word not in _FIXED:
        return None
    kinds = list(_FIXED[word])
    if word in _AGAIN:
        least = 0 if word == "stand" else 1
        again = _AGAIN[word]
        kinds.extend(list(again) * max(least, (len(words) - len(kinds)) // len(again)))
    if len(words) != len(kinds):
        return None
    found = [_thing_of(kind, each) for kind, each in zip(kinds, words)]
    return None if None in found else found


def _thing_of(kind, word):
    """The name, or the value, that a word tells, None where it tells none of this kind."""
    if kind == "name":
        return word if is_name(word) else None
    if kind == "pointed":
        return word if is_pointed(word) else None
    value = value_of(word)
    if kind == "number" and not is_within(value, 0, _GREATEST):
        return None
    return value
