"""Whether a thing is the reading of some list of words, however long."""

from callwords.commands import FORM, KIND, MOST_REST, NAME, REPEATED
from callwords.kinds import MOST_COUNT, MOST_MANY, fits, is_whole

READING_PARTS = 3


def is_reading(grammar, thing):
    """Whether the thing is the reading of some list of words that reads by a Grammar."""
    if not isinstance(thing, tuple) or len(thing) != READING_PARTS:
        return False
    path, rows, places = thing
    if not grammar.is_there(path) or not isinstance(rows, tuple) or len(rows) != len(path) + 1:
        return False
    last = grammar.node_of(path)
    if last.beneath or not _are_placed(last, places):
        return False
    return all([_is_row(grammar.node_of(path[:at]), row) for at, row in enumerate(rows)])


def _are_pairs(thing):
    """Whether the thing is a tuple of tuples of two."""
    return isinstance(thing, tuple) and all([isinstance(pair, tuple) and len(pair) == 2 for pair in thing])


def _is_row(node, thing):
    """Whether the thing tells, in order, options of a command that can stand in one line, with their worths."""
    if not _are_pairs(thing):
        return False
    last, on = -1, 0
    for name, worth in thing:
        number = node.numbers.get(name, -1) if isinstance(name, str) else -1
        if number <= last or not stands_with(node.options[number], node.owns[number], worth):
            return False
        if node.options[number][FORM] != "flag" or worth == 1:
            on = on | 1 << number
        last = number
    return on in node.fitting


def stands_with(option, own, thing):
    """Whether an option that stands in a line may have the thing as its worth there."""
    form, kind = option[FORM], option[KIND]
    if form == "flag":
        return is_whole(thing, 0, 1)
    if form == "count":
        return is_whole(thing, 1, MOST_COUNT)
    return are_worths(kind, own, thing, 1, MOST_MANY) if form == "many" else fits(kind, thing, own)


def are_worths(kind, own, thing, least, most):
    """Whether the thing is a tuple of so many worths of a kind."""
    if not isinstance(thing, tuple) or not least <= len(thing) <= most:
        return False
    return all([fits(kind, worth, own) for worth in thing])


def _are_placed(node, thing):
    """Whether the thing tells worths of a command's places, up to where none that is needed lacks."""
    if not _are_pairs(thing) or not node.needed <= len(thing) <= len(node.place_parts):
        return False
    for place, own, (name, worth) in zip(node.place_parts, node.place_owns, thing):
        if name != place[NAME] or not _is_placed(place, own, worth):
            return False
    return True


def _is_placed(place, own, thing):
    """Whether the thing is a place's worth, or worths."""
    _, kind, times = place
    return are_worths(kind, own, thing, 1, MOST_REST) if times in REPEATED else fits(kind, thing, own)
