"""Lines for calls: the shortest words of a reading, the shortest ones that are safe, and the plain ones."""

from callwords.commands import DEFAULT, FORM, NAME, NEED, OPTIONS, PLACES, REPEATED, SOURCE
from callwords.errors import NoCall, NoGrammar, NoList, NoReading, NoTruth, NoWay
from callwords.grammars import Grammar
from callwords.kinds import is_name
from callwords.layers import Call, all_places
from callwords.lines import MOST_WORDS, are_words
from callwords.reading import read, reads
from callwords.readings import is_reading, stands_with
from callwords.shortening import length, row_words, shortest_command, worth_word
from callwords.steps import CLOSING, is_like_option


def shortest(grammar, reading):
    """A shortest list of words that reads to just a reading; refused with NoGrammar, NoReading."""
    _look_at_reading(grammar, reading)
    path, rows, places = reading
    words = row_words(grammar, (), rows[0])
    for at, name in enumerate(path):
        words.append(shortest_command(grammar, path[:at], name))
        words += row_words(grammar, path[:at + 1], rows[at + 1])
    return words + _place_words(grammar, path, places)


def _look_at_reading(grammar, reading):
    """Refuses what is no Grammar, then what is no reading."""
    if not isinstance(grammar, Grammar):
        raise NoGrammar(grammar)
    if not is_reading(grammar, reading):
        raise NoReading(reading)


def _place_words(grammar, path, places):
    """The words of places, behind the one that closes options where one of them would be taken as one of these."""
    words = []
    for (_, _, times), (_, worth) in zip(grammar.command(path)[PLACES], places):
        words += [worth_word(one) for one in (worth if times in REPEATED else (worth,))]
    return [CLOSING] + words if any([is_like_option(word) for word in words]) else words


def plain(grammar, reading):
    """The plain list of words of a reading; refused with NoGrammar, NoReading."""
    _look_at_reading(grammar, reading)
    path, rows, places = reading
    words = _plain_row(grammar, (), rows[0])
    for at, name in enumerate(path):
        words.append(name)
        words += _plain_row(grammar, path[:at + 1], rows[at + 1])
    return words + _place_words(grammar, path, places)


def _plain_row(grammar, path, row):
    """The plain words of a command's options that stand."""
    words = []
    for name, worth in row:
        form = grammar.option(path, name)[FORM]
        if form == "flag":
            words.append("--" + name if worth == 1 else "--no-" + name)
        elif form == "count":
            words += ["--" + name] * worth
        else:
            worths = worth if form == "many" else (worth,)
            words += ["--" + name + "=" + worth_word(one) for one in worths]
    return words


def plain_words(grammar, words):
    """The plain list that reads to the same as the words; refused as read."""
    return plain(grammar, read(grammar, words))


def is_safe(grammar, call, thing, *, rooms=(), books=False):
    """Whether the thing is a list of words that is called as a Call in every room and book of a sort.

    Refused with NoGrammar, NoCall, NoList of the rooms' names, NoTruth.
    """
    _look_at_sort(grammar, call, rooms, books)
    if not are_words(thing) or not reads(grammar, thing):
        return False
    path, rows, places = read(grammar, thing)
    if path != call.path() or not _is_of(grammar, call):
        return False
    if all_places(grammar, path, places) != call.places():
        return False
    return all([_is_safe_row(grammar, call, path[:at], row, rooms, books) for at, row in enumerate(rows)])


def _look_at_sort(grammar, call, rooms, books):
    """Refuses what is no Grammar, no Call, no list of names, no truth."""
    if not isinstance(grammar, Grammar):
        raise NoGrammar(grammar)
    if not isinstance(call, Call):
        raise NoCall(call)
    if not isinstance(rooms, (list, tuple)) or not all([is_name(name) for name in rooms]):
        raise NoList(rooms)
    if not isinstance(books, bool):
        raise NoTruth(books)


def _is_of(grammar, call):
    """Whether a Call has just the options of its path's commands in a Grammar."""
    path = call.path()
    if not grammar.is_there(path):
        return False
    keys = []
    for at in range(len(path) + 1):
        keys += [(path[:at], option[NAME]) for option in grammar.command(path[:at])[OPTIONS]]
    return keys == [(where, name) for where, name, _ in call.worths()]


def _filled(call):
    """The places of a Call that have any worth, tuples (name, worth) as in a reading."""
    return tuple([(name, worth) for name, worth in call.places() if worth is not None and worth != ()])


def _may_lack(option, worth, rooms, books):
    """Whether an option that doesn't stand has the worth all the same, in every room and book of a sort."""
    at_risk = books or option[SOURCE] in rooms
    return not at_risk and not option[NEED] and option[DEFAULT] == worth


def _is_safe_row(grammar, call, path, row, rooms, books):
    """Whether what stands at a command, and what doesn't, comes to the Call's worths."""
    standing = dict(row)
    for option in grammar.command(path)[OPTIONS]:
        name = option[NAME]
        worth = call.worth(path, name)
        if name in standing:
            if standing[name] != worth:
                return False
        elif not _may_lack(option, worth, rooms, books):
            return False
    return True


def safe_line(grammar, call, *, rooms=(), books=False):
    """A shortest list of words that is safe for a Call; refused as is_safe, and with NoWay where there is none."""
    _look_at_sort(grammar, call, rooms, books)
    if not _is_of(grammar, call):
        raise NoWay(call)
    path, rows = call.path(), []
    for at in range(len(path) + 1):
        found = _safe_rows(grammar, call, path[:at], rooms, books)
        if not found:
            raise NoWay(call)
        rows.append(min(found)[2])
    # A Call of another Grammar may have other places, or lack a place's worth in another way, None or ().
    reading = (path, tuple(rows), _filled(call))
    if not is_reading(grammar, reading) or all_places(grammar, path, reading[2]) != call.places():
        raise NoWay(call)
    words = shortest(grammar, reading)
    if len(words) > MOST_WORDS:
        raise NoWay(call)
    return words


def _safe_rows(grammar, call, path, rooms, books):
    """The rows of a command's options that are safe, each behind how long its words are, and its number."""
    found = []
    for names in grammar.sets_at(path):
        row = _row_with(grammar, call, path, names, rooms, books)
        if row is not None:
            found.append((length(row_words(grammar, path, row)), len(found), row))
    return found


def _row_with(grammar, call, path, names, rooms, books):
    """The safe row in which just these options stand, and no flag is off that needn't; None where none is safe."""
    row = []
    for option in grammar.command(path)[OPTIONS]:
        worth = call.worth(path, option[NAME])
        off = option[FORM] == "flag" and worth == 0
        if option[NAME] in names:
            if off or not stands_with(grammar, option, worth):
                return None
            row.append((option[NAME], worth))
        elif not _may_lack(option, worth, rooms, books):
            if not off:
                return None
            row.append((option[NAME], worth))
    return tuple(row)
