"""Lists of words, read by a Grammar to just one reading, or refused at the first wrong sign."""

from callwords.errors import NoGrammar, NoList, NoWord, Wrong
from callwords.grammars import Grammar
from callwords.kinds import is_number, is_word
from callwords.lines import are_words
from callwords.steps import is_end, leads_on, reading_at, walked, wants


def read(grammar, words):
    """The reading (path, options, places) of words; refused with NoGrammar, NoList, Wrong."""
    look_at(grammar, words)
    spot, at = walked(grammar, words)
    if at == len(words) and is_end(spot):
        return reading_at(spot)
    wanted_there = wants(spot)
    sign = 0 if at == len(words) else _wrong_sign(spot, words[at], wanted_there)
    raise Wrong(at, sign, tuple(wanted_there))


def look_at(grammar, words):
    """Refuses what is no Grammar, then what is no list of at most forty words."""
    if not isinstance(grammar, Grammar):
        raise NoGrammar(grammar)
    if not are_words(words):
        raise NoList(words)


def _wrong_sign(spot, word, wanted_there):
    """The number of the first wrong sign of the wrong word, its length where all of it may begin one."""
    low, high = 0, len(word)
    # What begins an open text is open, so halves suffice: all ahead of low is open, what ends behind high isn't.
    while low < high:
        half = (low + high) // 2
        if leads_on(spot, word[:half + 1], wanted_there):
            low = half + 1
        else:
            high = half
    return low


def reading_of(grammar, words):
    """The reading of words, or None where they don't read; refused with NoGrammar, NoList."""
    look_at(grammar, words)
    spot, at = walked(grammar, words)
    return reading_at(spot) if at == len(words) and is_end(spot) else None


def is_open(grammar, words, begun):
    """Whether some list that reads begins with the words, and a word so begun; refused with NoWord, too."""
    look_at(grammar, words)
    if not is_word(begun):
        raise NoWord(begun)
    spot, at = walked(grammar, words)
    return at == len(words) and leads_on(spot, begun, wants(spot))


def wanted(grammar, words):
    """What may be the next word of some list that reads, a new list; refused with NoGrammar, NoList."""
    look_at(grammar, words)
    spot, at = walked(grammar, words)
    return wants(spot) if at == len(words) else []


def reads(grammar, words):
    """Whether the words are a list that reads; refused with NoGrammar, NoList."""
    look_at(grammar, words)
    spot, at = walked(grammar, words)
    return at == len(words) and is_end(spot)


def shows_reading(grammar, words, thing):
    """Whether the thing is the reading of the words; refused with NoGrammar, NoList."""
    reading = reading_of(grammar, words)
    return reading is not None and is_same(thing, reading)


def is_same(thing, told):
    """Whether the thing is what was told, tuples of texts and numbers, in kind too: True is no 1."""
    if isinstance(told, tuple):
        if not isinstance(thing, tuple) or len(thing) != len(told):
            return False
        return all([is_same(one, other) for one, other in zip(thing, told)])
    return thing == told and (isinstance(told, str) or is_number(thing))
