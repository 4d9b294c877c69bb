"""Words for worths of two kinds at once: of each sort one, by which of them takes it, and makes what of it."""

from callwords.kinds import MOST_OWN, number_word, words_of, worth_in
from callwords.steps import is_like_option

FIRST_LETTERS = "abcdefghi"
LONG_NAME = "aaaaaaaa"
NO_NAME = "A"


def _some_words(kind, own):
    """Words by which a kind can be told from any other one.

    Nine names, and nine words like options, since own words and names are at most eight; a number's bounds, what is
    beyond them, and nine numbers; the longest words of a text and longer ones.
    """
    if kind[0] == "number":
        low, high = kind[1], kind[2]
        numbers = [low - 1, high, high + 1, 0] + [low + more for more in range(MOST_OWN + 1)]
        return [number_word(number) for number in numbers]
    if kind[0] == "text":
        return ["a" * kind[1], "a" * (kind[1] + 1)]
    return words_of(kind, own)


def sorted_words(kind, own, against, others):
    """A dict from sorts to words, one of each, of two kinds with their own words, either of which may be None.

    A sort tells what the word is to each kind, and whether it is like a word of options.
    """
    if kind is None and against is None:
        return {}
    words = [] if kind is None else _some_words(kind, own)
    words = words + ([] if against is None else _some_words(against, others))
    words += [letter for letter in FIRST_LETTERS] + ["-" + letter for letter in FIRST_LETTERS]
    found = {}
    for word in words + ["", "--", LONG_NAME, NO_NAME]:
        worth = None if kind is None else worth_in(kind, word, own)
        beside = None if against is None else worth_in(against, word, others)
        if worth is not None or beside is not None:
            sort = (worth is None, beside is None, worth == beside, is_like_option(word))
            found[sort] = found.get(sort, word)
    return found


def shared_word(kind, own, against, others):
    """A word that writes the same worth of two kinds of equal tables, not like one of options where there is such."""
    found = sorted_words(kind, own, against, others)
    return found.get((False, False, True, False), found.get((False, False, True, True)))
