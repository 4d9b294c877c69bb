"""Whether a root command is fit to be a grammar, and which of its commands, looked at in order, is not."""

from callwords.commands import COMMANDS, GROUPS, NAME, OPTIONS, PLACES, SHORT
from callwords.commands import begins_with_name, has_command_form, own_name
from callwords.errors import Unfit
from callwords.kinds import are_unlike, fits_form, is_name

MOST_LEVELS = 2
MOST_COMMANDS = 12


def is_table(thing):
    """Whether the thing is a dict from names; what they lead to is not looked at."""
    return isinstance(thing, dict) and all([is_name(name) for name in thing])


def asked(table, name):
    """The own words of a name, by asking its def."""
    ask = table[name]
    return tuple(ask())


def fitted(root, table):
    """A dict from paths to commands, in order, and one from own names to words; refused with Unfit."""
    commands, words = {}, {}
    coming = [((), root)]
    while coming:
        path, thing = coming.pop()
        _look_at(path, thing, table, words)
        commands[path] = thing
        for below in reversed(thing[COMMANDS]):
            coming.append((_path_beneath(path, below), below))
    _refuse_deep(commands)
    if len(commands) > MOST_COMMANDS:
        raise Unfit((), "many", len(commands))
    return commands, words


def _path_beneath(path, thing):
    """The path of a thing that stands beneath; the path above where it has no name."""
    return path + (thing[NAME],) if begins_with_name(thing) else path


def _look_at(path, thing, table, words):
    """Refuses what is unfit by itself; words is filled with the own words of the kinds that it has."""
    if not has_command_form(thing):
        raise Unfit(path, "form", thing)
    _refuse_twice(path, thing)
    for name in _own_names(thing):
        if name not in table:
            raise Unfit(path, "own", name)
        if name not in words:
            words[name] = asked(table, name)
    for option in thing[OPTIONS]:
        if not _has_default(option, words):
            raise Unfit(path, "default", option[NAME])
    _refuse_group(path, thing)


def _refuse_twice(path, command):
    """Refuses the first name of options and places, then letter, then name beneath that stands ahead, too."""
    names = [part[NAME] for part in command[OPTIONS] + command[PLACES]]
    letters = [option[SHORT] for option in command[OPTIONS] if option[SHORT] is not None]
    beneath = [below[NAME] for below in command[COMMANDS] if begins_with_name(below)]
    for texts in (names, letters, beneath):
        if not are_unlike(texts):
            raise Unfit(path, "twice", [text for at, text in enumerate(texts) if text in texts[:at]][0])


def _own_names(command):
    """The names of own kinds of a command's options, then places, in their order."""
    kinds = [kind for _, _, _, kind, _, _, _ in command[OPTIONS]] + [kind for _, kind, _ in command[PLACES]]
    return [kind[1] for kind in kinds if kind is not None and kind[0] == "own"]


def _has_default(option, words):
    """Whether an option's default is one of its form and kind, own words counted."""
    _, _, form, kind, default, _, _ = option
    if not fits_form(form, kind, default):
        return False
    if own_name(kind) is None or default is None:
        return True
    worths = default if form == "many" else (default,)
    return all([worth in words[own_name(kind)] for worth in worths])


def _refuse_group(path, command):
    """Refuses the first group with a name that is no option of the command."""
    if not command[GROUPS]:
        return
    options = [option[NAME] for option in command[OPTIONS]]
    for group in command[GROUPS]:
        if not all([name in options for name in group[1]]):
            raise Unfit(path, "group", group)


def _refuse_deep(commands):
    """Refuses the first command that has too many levels above it."""
    for path in commands:
        if len(path) > MOST_LEVELS:
            raise Unfit(path, "deep", path)
