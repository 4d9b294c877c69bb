"""Rooms and books: what is one, and the worths that they give to options."""

from callwords.commands import FORM, KIND, is_path
from callwords.errors import BadSign, TooMany
from callwords.kinds import MOST_COUNT, MOST_MANY, is_name, is_whole, is_word, number_in, worth_in
from callwords.lines import cut, is_line

FLAG_WORTHS = {"no": 0, "yes": 1}
KEY_PARTS = 2


def is_room(thing):
    """Whether the thing is a dict from names to lines."""
    return isinstance(thing, dict) and all([is_name(name) and is_line(line) for name, line in thing.items()])


def is_book(thing):
    """Whether the thing is a dict from tuples (path, name) to tuples of at most six words."""
    return isinstance(thing, dict) and all([_is_key(key) and _are_few_words(words) for key, words in thing.items()])


def _is_key(thing):
    """Whether the thing is a tuple of names, any many, and a name."""
    return isinstance(thing, tuple) and len(thing) == KEY_PARTS and is_path(thing[0]) and is_name(thing[1])


def _are_few_words(thing):
    """Whether the thing is a tuple of at most six words."""
    return isinstance(thing, tuple) and len(thing) <= MOST_MANY and all([is_word(word) for word in thing])


def worth_in_room(grammar, option, text):
    """The worth that a room's line gives an option, or None."""
    if option[FORM] != "many":
        return _worth_of_text(grammar, option, text)
    try:
        words = cut(text)
    except (BadSign, TooMany):
        return None
    return _worths_of(grammar, option, words)


def worth_in_book(grammar, option, words):
    """The worth that a book's words give an option, or None."""
    if option[FORM] == "many":
        return _worths_of(grammar, option, words)
    return _worth_of_text(grammar, option, words[0]) if len(words) == 1 else None


def _worth_of_text(grammar, option, text):
    """The worth that just this text writes, or None."""
    if option[FORM] == "flag":
        return FLAG_WORTHS.get(text)
    if option[FORM] == "count":
        number = number_in(text)
        return number if is_whole(number, 0, MOST_COUNT) else None
    return worth_in(option[KIND], text, grammar.own_of(option[KIND])) if is_word(text) else None


def _worths_of(grammar, option, words):
    """The worths that words write, none to six, or None."""
    if len(words) > MOST_MANY:
        return None
    own = grammar.own_of(option[KIND])
    worths = tuple([worth_in(option[KIND], word, own) for word in words])
    return None if None in worths else worths
