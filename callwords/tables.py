"""The tables of kinds, by which two kinds are compared."""

from callwords.errors import NoGrammar, NoKind
from callwords.grammars import Grammar
from callwords.kinds import is_kind

WITH_WORDS = ("one", "own")


def table_of(grammar, kind):
    """The table of a kind, a tuple; refused with NoGrammar, NoKind, and NotThere of an own name that is none there."""
    if not isinstance(grammar, Grammar):
        raise NoGrammar(grammar)
    if not is_kind(kind):
        raise NoKind(kind)
    if kind[0] not in WITH_WORDS:
        return kind
    words = kind[1] if kind[0] == "one" else grammar.own_words(kind)
    return "words", tuple(sorted(list(words)))
