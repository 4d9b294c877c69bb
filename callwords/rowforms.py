"""Rows of a grammar's text: kinds, options, places and groups as words, and read back from them."""

from callwords.commands import PLACE_PARTS, WITH_KIND, has_group_form, has_option_form, has_place_form
from callwords.kinds import MOST_OWN_SIGNS, is_kind, number_in, number_word, worth_of
from callwords.lines import quoted
from callwords.shortening import worth_word

PARTING = "|"
DEFAULTS = {"flag": 0, "count": 0, "one": None, "many": ()}
KIND_WORDS = {"number": 3, "one": 2, "name": 1, "text": 2, "own": 2}


def kind_words(kind):
    """The words that write a kind."""
    if kind[0] == "number":
        return ["number", number_word(kind[1]), number_word(kind[2])]
    if kind[0] == "one":
        return ["one", PARTING.join(list(kind[1]))]
    if kind[0] == "text":
        return ["text", number_word(kind[1])]
    return list(kind)


def option_row(option):
    """The row that writes an option."""
    name, short, form, kind, default, need, source = option
    words = ["option", name, form]
    words += [] if short is None else ["-" + short]
    words += [] if kind is None else kind_words(kind)
    words += [] if source is None else ["room", source]
    words += ["need"] if need else []
    worths = default if form == "many" else () if default is None else (default,)
    if worths:
        words += ["default"] + [quoted(worth_word(worth)) for worth in worths]
    return " ".join(words)


def place_row(place):
    """The row that writes a place."""
    name, kind, times = place
    return " ".join(["place", name, times] + kind_words(kind))


def group_row(group):
    """The row that writes a group."""
    word, names = group
    return " ".join(["group", word, *names])


def kind_ahead(words):
    """The kind with which words begin, and the words behind it; None and all words where they begin with none."""
    if not words or words[0] not in KIND_WORDS:
        return None, words
    many = KIND_WORDS[words[0]]
    kind = _kind_of(words[:many])
    return (None, words) if kind is None else (kind, words[many:])


def _kind_of(words):
    """The kind that words write, or None."""
    parts = list(words[1:])
    if words[0] in ("number", "text"):
        parts = [number_in(word) for word in parts]
    elif words[0] == "one":
        parts = [tuple(word.split(PARTING)) for word in parts]
    kind = (words[0], *parts)
    return kind if is_kind(kind) else None


def option_of(words):
    """The option that words write, those behind `option` in its row, or None; its default needn't fit."""
    if len(words) < 2 or words[1] not in DEFAULTS:
        return None
    name, form, rest = words[0], words[1], words[2:]
    short, kind, source, need, default = None, None, None, False, DEFAULTS[form]
    if rest and rest[0].startswith("-"):
        short, rest = rest[0][1:], rest[1:]
    if form in WITH_KIND:
        kind, rest = kind_ahead(rest)
        if kind is None:
            return None
    if len(rest) > 1 and rest[0] == "room":
        source, rest = rest[1], rest[2:]
    if rest and rest[0] == "need":
        need, rest = True, rest[1:]
    if rest and rest[0] == "default":
        found, rest = default_of(form, kind, rest[1:]), []
        if found is None or found[0] is None:
            return None
        default = found[0]
    option = (name, short, form, kind, default, need, source)
    return option if not rest and has_option_form(option) else None


def default_of(form, kind, words):
    """The default that words write for an option of a form and kind, alone in a tuple, or None where they write none.

    No word stands for None of a `one`. Whether the default fits isn't looked at where the form can be told.
    """
    worths = tuple([number_in(word) if kind is None else _worth_of(kind, word) for word in words])
    if None in worths:
        return None
    if form == "many":
        return (worths,)
    if form == "one" and len(worths) == 0:
        return (None,)
    return worths if len(worths) == 1 else None


def _worth_of(kind, word):
    """The worth of a kind that a word writes, or None; any word of one to twenty signs is one of an own kind."""
    if kind[0] == "own":
        return word if 1 <= len(word) <= MOST_OWN_SIGNS else None
    return worth_of(kind, word)


def place_of(words):
    """The place that words write, those behind `place` in its row, or None."""
    if len(words) < PLACE_PARTS:
        return None
    kind, rest = kind_ahead(words[2:])
    place = (words[0], kind, words[1])
    return place if not rest and has_place_form(place) else None


def group_of(words):
    """The group that words write, those behind `group` in its row, or None."""
    group = (words[0], tuple(words[1:])) if words else None
    return group if has_group_form(group) else None
