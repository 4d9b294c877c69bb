"""A book's text, row by row."""

from callwords.errors import BadSign, NoLine, TooMany
from callwords.kinds import MOST_MANY, are_signs, is_name
from callwords.lines import cut, quoted

BECOMES = "="
REMARK = "#"


def is_text(thing):
    """Whether the thing is a text of signs and line feeds."""
    return isinstance(thing, str) and are_signs(thing.replace("\n", ""))


def row_counts(row):
    """Whether a row's first sign but blanks is one, and none of a remark."""
    text = row.lstrip(" ")
    return text != "" and not text.startswith(REMARK)


def row_read(row):
    """The key (path, name) and the words, a tuple, that a row writes, or None."""
    try:
        words = cut(row)
    except (NoLine, BadSign, TooMany):
        return None
    if BECOMES not in words:
        return None
    at = words.index(BECOMES)
    names, worths = tuple(words[:at]), tuple(words[at + 1:])
    if len(names) == 0 or not all([is_name(name) for name in names]) or len(worths) > MOST_MANY:
        return None
    return (names[:-1], names[-1]), worths


def row_written(key, words):
    """The row that writes a key (path, name) and words."""
    path, name = key
    return " ".join([*path, name, BECOMES] + [quoted(word) for word in words])
