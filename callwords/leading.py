"""Readings and calls, led from one edition over changes to a newer one."""

from callwords.changes import BECOMES, NAMED, WHERE, WORD, name_behind, path_behind
from callwords.commands import DEFAULT, FORM, NAME, OPTIONS, REPEATED
from callwords.errors import Gone
from callwords.kinds import fits


def led_over(steps, reading):
    """A reading led over changes, steps as change_steps tells them; refused with Gone."""
    for ahead, change, behind in steps:
        reading = _led_once(ahead, change, behind, reading)
    return reading


def _led_once(ahead, change, behind, reading):
    """A reading led over one change; refused with Gone."""
    path, rows, places = reading
    where, at = change[WHERE], len(change[WHERE])
    if path[:at] != where:
        return reading
    row = _row_led(ahead, change, behind, rows[at])
    if path == where:
        places = _places_led(change, behind, places)
    return path_behind(change, path), rows[:at] + (row,) + rows[at + 1:], places


def _row_led(ahead, change, behind, row):
    """What stands at the command that a change is of, led over it; refused with Gone."""
    word, where, name = change[WORD], change[WHERE], change[NAMED]
    standing = dict(row)
    if word == "default" and name not in standing:
        return _with_old_default(ahead, change, row)
    if word == "gone" and name in standing:
        raise Gone(where, name)
    if word == "kind" and name in standing:
        many = behind.option(where, name)[FORM] == "many"
        _refuse_unlike(change, behind, standing[name] if many else (standing[name],))
    return tuple([(name_behind(change, where, one), worth) for one, worth in row])


def _refuse_unlike(change, grammar, worths):
    """Refuses worths of which one isn't of the kind that a change tells."""
    kind = change[BECOMES]
    if not all([fits(kind, worth, grammar.own_of(kind)) for worth in worths]):
        raise Gone(change[WHERE], change[NAMED])


def _with_old_default(ahead, change, row):
    """A row in which an option stands with the default that it had, where it becomes another; refused with Gone."""
    where, name = change[WHERE], change[NAMED]
    option = ahead.option(where, name)
    default = option[DEFAULT]
    if default == change[BECOMES]:
        return row
    if default is None or default == () or (default == 0 and option[FORM] == "count"):
        raise Gone(where, name)
    standing = dict(row)
    standing[name] = default
    order = [other[NAME] for other in ahead.command(where)[OPTIONS]]
    return tuple([(one, standing[one]) for one in order if one in standing])


def _places_led(change, behind, places):
    """The places of the command that a change is of, led over it; refused with Gone."""
    found = []
    for name, worth in places:
        if change[WORD] == "kind" and name == change[NAMED]:
            _, _, times = behind.place(change[WHERE], name)
            _refuse_unlike(change, behind, worth if times in REPEATED else (worth,))
        found.append((name_behind(change, change[WHERE], name), worth))
    return tuple(found)


def path_led(steps, path):
    """What a path is called behind changes."""
    for _, change, _ in steps:
        path = path_behind(change, path)
    return path


def name_led(steps, path, name):
    """What an option of a path is called behind changes, or None where it is gone."""
    for _, change, _ in steps:
        name = name_behind(change, path, name)
        if name is None:
            return None
        path = path_behind(change, path)
    return name


def call_led(steps, call):
    """The path, the worths and the places of a Call led over changes, each in the order in which a Call tells it.

    Whether these are worths of the kinds that come plays no part.
    """
    path, worths, places = call.path(), call.worths(), call.places()
    for _, change, _ in steps:
        worths = _worths_led(change, path, worths)
        places = [(name_behind(change, path, name), worth) for name, worth in places]
        path = path_behind(change, path)
    return path, worths, places


def _worths_led(change, path, worths):
    """The worths of the options of a Call of a path, led over one change.

    An option that goes is left out; one that comes has the default with which it comes.
    """
    where = change[WHERE]
    if change[WORD] == "more" and path[:len(where)] == where:
        # It stands behind the others of its command, so ahead of those of the commands beneath.
        ahead = [row for row in worths if len(row[0]) <= len(where)]
        worths = ahead + [(where, change[NAMED][NAME], change[NAMED][DEFAULT])] + worths[len(ahead):]
    led = [(path_behind(change, way), name_behind(change, way, name), worth) for way, name, worth in worths]
    return [row for row in led if row[1] is not None]
