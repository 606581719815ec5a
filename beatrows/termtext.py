"""Terms read from texts."""

from beatrows.errors import NoText
from beatrows.sums import ops_told
from beatrows.terms import LEVELS, Name, Not, Pick, Two, Value
from beatrows.words import is_name, value_of


def read_term(text):
    """The term that a text writes; of any thing, refused with NoText of a word's number."""
    if not isinstance(text, str):
        raise NoText(0)
    words = text.split(" ")
    term, at = _term_at(words, 0, LEVELS)
    if at < len(words):
        raise NoText(at)
    return term


def _term_at(words, at, room):
    """The term of at most room levels that begins at a word, and the number of the word behind it."""
    word = _word_at(words, at)
    if word == "(" and room > 1:
        return _bracket_at(words, at + 1, room - 1)
    if is_name(word):
        return Name(word), at + 1
    value = value_of(word)
    if value is None:
        raise NoText(at)
    return Value(value), at + 1


def _bracket_at(words, at, room):
    """Likewise of what stands behind an opened bracket, with terms of at most room levels within."""
    if _word_at(words, at) == "!":
        one, at = _term_at(words, at + 1, room)
        return Not(one), _behind(words, at, ")")
    one, at = _term_at(words, at, room)
    op = _word_at(words, at)
    if op == "?":
        return _pick_at(words, at + 1, room, one)
    if op not in ops_told():
        raise NoText(at)
    other, at = _term_at(words, at + 1, room)
    return Two(op, one, other), _behind(words, at, ")")


def _pick_at(words, at, room, by):
    one, at = _term_at(words, at, room)
    other, at = _term_at(words, _behind(words, at, ":"), room)
    return Pick(by, one, other), _behind(words, at, ")")


def _behind(words, at, word):
    """The number behind the word that has to stand at this one."""
    if _word_at(words, at) != word:
        raise NoText(at)
    return at + 1


def _word_at(words, at):
    if at == len(words):
        raise NoText(at)
    return words[at]
