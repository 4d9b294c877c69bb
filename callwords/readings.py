"""Whether a thing is the reading of some list of words, however long."""

from callwords.commands import COMMANDS, FORM, KIND, MOST_REST, NAME, NEEDED, OPTIONS, PLACES, REPEATED
from callwords.kinds import MOST_COUNT, MOST_MANY, is_whole, is_worth

READING_PARTS = 3


def is_reading(grammar, thing):
    """Whether the thing is the reading of some list of words that reads by a Grammar."""
    if not isinstance(thing, tuple) or len(thing) != READING_PARTS:
        return False
    path, rows, places = thing
    if not grammar.is_there(path) or grammar.command(path)[COMMANDS] or not isinstance(rows, tuple):
        return False
    if len(rows) != len(path) + 1:
        return False
    return all([_is_row(grammar, path[:at], row) for at, row in enumerate(rows)]) and _are_placed(grammar, path, places)


def _are_pairs(thing):
    """Whether the thing is a tuple of tuples of two."""
    return isinstance(thing, tuple) and all([isinstance(pair, tuple) and len(pair) == 2 for pair in thing])


def _is_row(grammar, path, thing):
    """Whether the thing tells, in order, options of a command that can stand in one line, with their worths."""
    if not _are_pairs(thing):
        return False
    options = grammar.command(path)[OPTIONS]
    names = [name for name, _ in thing]
    standing = [option for option in options if option[NAME] in names]
    if names != [option[NAME] for option in standing]:
        return False
    worths = [worth for _, worth in thing]
    if not all([stands_with(grammar, option, worth) for option, worth in zip(standing, worths)]):
        return False
    return names_on(standing, worths) in grammar.sets_at(path)


def names_on(options, worths):
    """The names of those options, with their worths, that aren't flags that are off."""
    return tuple([option[NAME] for option, worth in zip(options, worths) if option[FORM] != "flag" or worth == 1])


def stands_with(grammar, option, thing):
    """Whether an option that stands in a line may have the thing as its worth there."""
    form, kind = option[FORM], option[KIND]
    if form == "flag":
        return is_whole(thing, 0, 1)
    if form == "count":
        return is_whole(thing, 1, MOST_COUNT)
    return _are_worths(grammar, kind, thing, MOST_MANY) if form == "many" else is_worth_in(grammar, kind, thing)


def is_worth_in(grammar, kind, thing):
    """Whether the thing is a worth of a kind, the Grammar's own words counted."""
    return is_worth(kind, thing, own=grammar.own_words(kind))


def _are_worths(grammar, kind, thing, most):
    """Whether the thing is a tuple of worths of a kind, one at least."""
    if not isinstance(thing, tuple) or not 1 <= len(thing) <= most:
        return False
    return all([is_worth_in(grammar, kind, worth) for worth in thing])


def _are_placed(grammar, path, thing):
    """Whether the thing tells worths of a command's places, up to where none that is needed lacks."""
    places = grammar.command(path)[PLACES]
    if not _are_pairs(thing) or [name for name, _ in thing] != [place[NAME] for place in places[:len(thing)]]:
        return False
    if any([times in NEEDED for _, _, times in places[len(thing):]]):
        return False
    return all([_is_placed(grammar, place, worth) for place, (_, worth) in zip(places, thing)])


def _is_placed(grammar, place, thing):
    """Whether the thing is a place's worth, or worths."""
    _, kind, times = place
    if times in REPEATED:
        return _are_worths(grammar, kind, thing, MOST_REST)
    return is_worth_in(grammar, kind, thing)
