"""Words for worths of two kinds at once: of each sort one, by which of them takes it, and makes what of it."""

from callwords.kinds import MOST_OWN, known_words, worth_of
from callwords.steps import is_like_option

FIRST_LETTERS = "abcdefghi"
LONG_NAME = "aaaaaaaa"
NO_NAME = "A"


def _some_words(grammar, kind):
    """Words by which a kind can be told from any other one.

    Nine names, and nine words like options, since own words and names are at most eight; a number's bounds, what is
    beyond them, and nine numbers; the longest words of a text and longer ones.
    """
    if kind[0] == "number":
        low, high = kind[1], kind[2]
        numbers = [low - 1, high, high + 1, 0] + [low + more for more in range(MOST_OWN + 1)]
        return [str(number) for number in numbers]
    if kind[0] == "text":
        return ["a" * kind[1], "a" * (kind[1] + 1)]
    return known_words(kind, own=grammar.own_words(kind))


def sorted_words(one, kind, other, against):
    """A dict from sorts to words, one of each, of two Grammars' kinds, either of which may be None.

    A sort tells what the word is to each kind, and whether it is like a word of options.
    """
    if kind is None and against is None:
        return {}
    words = [] if kind is None else _some_words(one, kind)
    words = words + ([] if against is None else _some_words(other, against))
    words += [letter for letter in FIRST_LETTERS] + ["-" + letter for letter in FIRST_LETTERS]
    found = {}
    for word in words + ["", "--", LONG_NAME, NO_NAME]:
        worth, beside = _worth(one, kind, word), _worth(other, against, word)
        if worth is not None or beside is not None:
            sort = (worth is None, beside is None, worth == beside, is_like_option(word))
            found[sort] = found.get(sort, word)
    return found


def _worth(grammar, kind, word):
    """The worth that a word writes, or None, as of no kind."""
    return None if kind is None else worth_of(kind, word, own=grammar.own_words(kind))


def shared_word(one, kind, other, against):
    """A word that writes the same worth of two kinds of equal tables, not like one of options where there is such."""
    found = sorted_words(one, kind, other, against)
    return found.get((False, False, True, False), found.get((False, False, True, True)))
