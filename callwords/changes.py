"""Changes of a grammar: their forms, the Grammar that comes of one, and what paths and names become by it."""

from callwords.commands import COMMANDS, DEFAULT, GROUPS, KIND, NAME, NEED, OPTION_PARTS, OPTIONS, PLACES, SHORT
from callwords.commands import LEAST_GROUPED, is_path
from callwords.errors import NoChange, NoGrammar, NoList, NotThere
from callwords.grammars import Grammar
from callwords.kinds import is_letter, is_name

MOST_CHANGES = 8
WORD = 0
WHERE = 1
NAMED = 2
BECOMES = 3
CHANGE_PARTS = {"rename": 4, "command": 4, "letter": 4, "gone": 3, "default": 4, "more": 3, "kind": 4}
PLACE_KIND = 1


def has_change_form(thing):
    """Whether the thing is a change by its form; worths, kinds and options are not looked at, but for need."""
    if not isinstance(thing, tuple) or len(thing) == 0 or not isinstance(thing[WORD], str):
        return False
    word = thing[WORD]
    if len(thing) != CHANGE_PARTS.get(word) or not is_path(thing[WHERE]):
        return False
    if word == "more":
        return not _is_in_need(thing[NAMED])
    if not is_name(thing[NAMED]):
        return False
    if word == "letter":
        return thing[BECOMES] is None or is_letter(thing[BECOMES])
    return word not in ("rename", "command") or is_name(thing[BECOMES])


def _is_in_need(thing):
    """Whether the thing has an option's parts, and tells that it is in need."""
    return isinstance(thing, tuple) and len(thing) == OPTION_PARTS and thing[NEED] is True


def change_steps(grammar, changes):
    """Each of changes with the Grammar ahead of it and the one behind, a list of tuples (ahead, change, behind).

    Refused with NoGrammar, NoList, then, change by change, with NoChange, NotThere, Unfit.
    """
    if not isinstance(grammar, Grammar):
        raise NoGrammar(grammar)
    if not isinstance(changes, (list, tuple)) or len(changes) > MOST_CHANGES:
        raise NoList(changes)
    steps, ahead = [], grammar
    for change in changes:
        behind = _with_change(ahead, change)
        steps.append((ahead, change, behind))
        ahead = behind
    return steps


def _with_change(grammar, change):
    """The Grammar that comes of a change; refused with NoChange, NotThere, Unfit."""
    if not has_change_form(change):
        raise NoChange(change)
    command = grammar.command(change[WHERE])
    _refuse_not_there(command, change)
    make = MAKERS[change[WORD]]
    return grammar.with_root(_replaced(grammar.root(), change[WHERE], make(command, change)))


def _refuse_not_there(command, change):
    """Refuses the name of a change that is none of a command."""
    word, parts = change[WORD], command[OPTIONS]
    if word == "more":
        return
    if word == "command":
        parts = command[COMMANDS]
    elif word in ("rename", "kind"):
        parts = command[OPTIONS] + command[PLACES]
    if change[NAMED] not in [part[NAME] for part in parts]:
        raise NotThere(change[NAMED])


def _replaced(command, path, new):
    """A command with another one in the place of that of a path beneath it."""
    if path == ():
        return new
    beneath = []
    for below in command[COMMANDS]:
        beneath.append(_replaced(below, path[1:], new) if below[NAME] == path[0] else below)
    return command[:COMMANDS] + (tuple(beneath),)


def _with_part(parts, name, at, thing):
    """Options, places or commands of which the one of a name has another thing at a number."""
    return tuple([part[:at] + (thing,) + part[at + 1:] if part[NAME] == name else part for part in parts])


def _with_options(command, at, change):
    """A command of which the named option has another thing at a number."""
    name, _, places, groups, beneath = command
    return name, _with_part(command[OPTIONS], change[NAMED], at, change[BECOMES]), places, groups, beneath


def _renamed(command, change):
    """A command of which an option or a place has another name."""
    old, new = change[NAMED], change[BECOMES]
    groups = tuple([(word, tuple([new if one == old else one for one in names])) for word, names in command[GROUPS]])
    options, places = _with_part(command[OPTIONS], old, NAME, new), _with_part(command[PLACES], old, NAME, new)
    return command[NAME], options, places, groups, command[COMMANDS]


def _with_command(command, change):
    """A command of which one beneath has another name."""
    return command[:COMMANDS] + (_with_part(command[COMMANDS], change[NAMED], NAME, change[BECOMES]),)


def _with_letter(command, change):
    """A command of which an option has another letter, or none."""
    return _with_options(command, SHORT, change)


def _without(command, change):
    """A command without an option, of which no group tells any more."""
    gone = change[NAMED]
    groups = []
    for word, names in command[GROUPS]:
        left = tuple([one for one in names if one != gone])
        if len(left) >= LEAST_GROUPED and not (word == "needs" and names[0] == gone):
            groups.append((word, left))
    options = tuple([option for option in command[OPTIONS] if option[NAME] != gone])
    return command[NAME], options, command[PLACES], tuple(groups), command[COMMANDS]


def _with_default(command, change):
    """A command of which an option has another default."""
    return _with_options(command, DEFAULT, change)


def _with_more(command, change):
    """A command with an option more."""
    name, options, places, groups, beneath = command
    return name, options + (change[NAMED],), places, groups, beneath


def _with_kind(command, change):
    """A command of which an option or a place has another kind."""
    name, options, _, groups, beneath = _with_options(command, KIND, change)
    return name, options, _with_part(command[PLACES], change[NAMED], PLACE_KIND, change[BECOMES]), groups, beneath


MAKERS = {
    "rename": _renamed, "command": _with_command, "letter": _with_letter, "gone": _without, "default": _with_default,
    "more": _with_more, "kind": _with_kind,
}


def path_behind(change, path):
    """What a path is called behind a change."""
    where, at = change[WHERE], len(change[WHERE])
    if change[WORD] != "command" or path[:at + 1] != where + (change[NAMED],):
        return path
    return where + (change[BECOMES],) + path[at + 1:]


def name_behind(change, path, name):
    """What an option or a place of a path is called behind a change, or None where it is gone."""
    if (path, name) != change[WHERE:BECOMES]:
        return name
    if change[WORD] == "gone":
        return None
    return change[BECOMES] if change[WORD] == "rename" else name
