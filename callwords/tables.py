"""The tables of kinds, by which two kinds are compared."""

from callwords.errors import NoGrammar, NoKind
from callwords.grammars import Grammar
from callwords.kinds import is_kind, words_of

WITH_WORDS = ("one", "own")


def table_of(grammar, kind):
    """The table of a kind, a tuple; refused with NoGrammar, NoKind, and NotThere of an own name that is none there."""
    if not isinstance(grammar, Grammar):
        raise NoGrammar(grammar)
    if not is_kind(kind):
        raise NoKind(kind)
    return table_with(kind, grammar.own_words(kind))


def table_with(kind, own):
    """The table of what is known to be a kind, with its own words."""
    if kind[0] not in WITH_WORDS:
        return kind
    return "words", tuple(sorted(words_of(kind, own)))
