"""Readings and calls, led from one edition over changes to a newer one."""

from callwords.changes import BECOMES, NAMED, WHERE, WORD, name_behind, path_behind
from callwords.commands import COMMANDS, DEFAULT, FORM, KIND, MOST_REST, NAME, NEED, OPTIONS, PLACES, REPEATED
from callwords.commands import WITH_KIND
from callwords.errors import Gone
from callwords.kinds import MOST_COUNT, MOST_MANY, fits, is_whole
from callwords.readings import are_worths


def led_over(steps, reading):
    """A reading led over changes, steps as change_steps tells them; refused with Gone."""
    for ahead, change, behind in steps:
        reading = _led_once(ahead, change, behind, reading)
    return reading


def _led_once(ahead, change, behind, reading):
    """A reading led over one change; refused with Gone."""
    path, rows, places = reading
    where, at = change[WHERE], len(change[WHERE])
    if path[:at] != where:
        return reading
    row = _row_led(ahead, change, behind, rows[at])
    if path == where:
        places = _places_led(change, behind, places)
    return path_behind(change, path), rows[:at] + (row,) + rows[at + 1:], places


def _row_led(ahead, change, behind, row):
    """What stands at the command that a change is of, led over it; refused with Gone."""
    word, where, name = change[WORD], change[WHERE], change[NAMED]
    standing = dict(row)
    if word == "default" and name not in standing:
        return _with_old_default(ahead, change, row)
    if word == "gone" and name in standing:
        raise Gone(where, name)
    if word == "kind" and name in standing:
        many = behind.option(where, name)[FORM] == "many"
        _refuse_unlike(change, behind, standing[name] if many else (standing[name],))
    return tuple([(name_behind(change, where, one), worth) for one, worth in row])


def _refuse_unlike(change, grammar, worths):
    """Refuses worths of which one isn't of the kind that a change tells."""
    kind = change[BECOMES]
    if not all([fits(kind, worth, grammar.own_of(kind)) for worth in worths]):
        raise Gone(change[WHERE], change[NAMED])


def _with_old_default(ahead, change, row):
    """A row in which an option stands with the default that it had, where it becomes another; refused with Gone."""
    where, name = change[WHERE], change[NAMED]
    option = ahead.option(where, name)
    default = option[DEFAULT]
    if default == change[BECOMES]:
        return row
    if default is None or default == () or (default == 0 and option[FORM] == "count"):
        raise Gone(where, name)
    standing = dict(row)
    standing[name] = default
    order = [other[NAME] for other in ahead.command(where)[OPTIONS]]
    return tuple([(one, standing[one]) for one in order if one in standing])


def _places_led(change, behind, places):
    """The places of the command that a change is of, led over it; refused with Gone."""
    found = []
    for name, worth in places:
        if change[WORD] == "kind" and name == change[NAMED]:
            _, _, times = behind.place(change[WHERE], name)
            _refuse_unlike(change, behind, worth if times in REPEATED else (worth,))
        found.append((name_behind(change, change[WHERE], name), worth))
    return tuple(found)


def path_led(steps, path):
    """What a path is called behind changes."""
    for _, change, _ in steps:
        path = path_behind(change, path)
    return path


def name_led(steps, path, name):
    """What an option of a path is called behind changes, or None where it is gone."""
    for _, change, _ in steps:
        name = name_behind(change, path, name)
        if name is None:
            return None
        path = path_behind(change, path)
    return name


def worths_led(steps, call):
    """The path, the worths, a dict from tuples (path, name), and the places of a Call led over changes.

    Options that go are left out; those that come have the default with which they came.
    """
    path, places = call.path(), call.places()
    worths = {(where, name): worth for where, name, worth in call.worths()}
    for _, change, _ in steps:
        if change[WORD] == "more" and path[:len(change[WHERE])] == change[WHERE]:
            worths[change[WHERE], change[NAMED][NAME]] = change[NAMED][DEFAULT]
        further = {}
        for where, name in worths:
            new = name_behind(change, where, name)
            if new is not None:
                further[path_behind(change, where), new] = worths[where, name]
        places = [(name_behind(change, path, name), worth) for name, worth in places]
        worths, path = further, path_behind(change, path)
    return path, worths, places


def options_on(grammar, path):
    """All options of the commands from the root to a path's end, tuples (path, option)."""
    found = []
    for at in range(len(path) + 1):
        found += [(path[:at], option) for option in grammar.command(path[:at])[OPTIONS]]
    return found


def can_be_called(grammar, call):
    """Whether a Call has just the options and places of a command without any beneath, and worths of their kinds."""
    path = call.path()
    if not grammar.is_there(path) or grammar.command(path)[COMMANDS]:
        return False
    options, worths, places = options_on(grammar, path), call.worths(), grammar.command(path)[PLACES]
    if [(where, option[NAME]) for where, option in options] != [(where, name) for where, name, _ in worths]:
        return False
    if [place[NAME] for place in places] != [name for name, _ in call.places()]:
        return False
    if not all([_can_be(grammar, option, worth) for (_, option), (_, _, worth) in zip(options, worths)]):
        return False
    return all([_can_fill(grammar, place, worth) for place, (_, worth) in zip(places, call.places())])


def _can_be(grammar, option, worth):
    """Whether an option may be called with a worth."""
    form, kind = option[FORM], option[KIND]
    if form not in WITH_KIND:
        return is_whole(worth, 0, 1 if form == "flag" else MOST_COUNT)
    if form == "many":
        return are_worths(kind, grammar.own_of(kind), worth, 0, MOST_MANY)
    if worth is None:
        return option[DEFAULT] is None and not option[NEED]
    return fits(kind, worth, grammar.own_of(kind))


def _can_fill(grammar, place, worth):
    """Whether a place may be called with a worth, or worths."""
    _, kind, times = place
    own = grammar.own_of(kind)
    if times in REPEATED:
        return are_worths(kind, own, worth, 1 if times == "some" else 0, MOST_REST)
    return times == "maybe" if worth is None else fits(kind, worth, own)
