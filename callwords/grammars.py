"""Grammars: which commands there are, which of their options stand together, which shortened names read."""

from itertools import combinations

from callwords.commands import COMMANDS, FORM, GROUPS, KIND, NAME, NEEDED, OPTIONS, PLACES, is_path, own_name
from callwords.errors import NoGrammar, NoKind, NoList, NoOwn, NotThere
from callwords.fitting import asked, fitted, is_table
from callwords.kinds import is_kind


class Grammar:
    """A root command, all beneath it, and a table of own words. It never changes."""

    def __init__(self, root, *, own=None):
        table = {} if own is None else own
        if not is_table(table):
            raise NoOwn(own)
        self._own = {name: table[name] for name in table}
        commands, words = fitted(root, self._own)
        self._root = root
        self._commands = commands
        self._words = words
        self._sets = {path: _sets_of(commands[path], words) for path in commands}

    def root(self):
        """The root command."""
        return self._root

    def paths(self):
        """All paths, a new list: each command's, then those beneath it, ahead of the next one beside it."""
        return list(self._commands)

    def is_there(self, path):
        """Whether the thing is one of the paths."""
        return is_path(path) and path in self._commands

    def command(self, path):
        """The command of a path; refused with NotThere."""
        if not self.is_there(path):
            raise NotThere(path)
        return self._commands[path]

    def option(self, path, name):
        """The option of a path and a name; refused with NotThere."""
        return _named(self.command(path)[OPTIONS], name)

    def place(self, path, name):
        """The place of a path and a name; refused with NotThere."""
        return _named(self.command(path)[PLACES], name)

    def own_words(self, kind):
        """The own words of a kind, a new list, none of other kinds than own; refused with NoKind, NotThere."""
        if not is_kind(kind):
            raise NoKind(kind)
        name = own_name(kind)
        if name is None:
            return []
        if name in self._words:
            return list(self._words[name])
        if name not in self._own:
            raise NotThere(name)
        return list(asked(self._own, name))

    def has_worth(self, kind):
        """Whether a kind has any worth; refused with NoKind, NotThere."""
        words = self.own_words(kind)
        return own_name(kind) is None or len(words) > 0

    def with_root(self, root):
        """A Grammar of another root, with the same own table; refused with Unfit."""
        return Grammar(root, own=self._own)

    def sets_at(self, path):
        """The sets of options that may stand together at one of the paths, a tuple."""
        return self._sets[path]

    def __eq__(self, other):
        return isinstance(other, Grammar) and self._root == other._root and self._words == other._words

    def __len__(self):
        return len(self._commands)


def _named(parts, name):
    """The one of options or places that has a name; refused with NotThere."""
    for part in parts:
        if part[NAME] == name:
            return part
    raise NotThere(name)


def _sets_of(command, words):
    """The sets of a command's options that may stand together, by how many, then by their numbers."""
    options, found = command[OPTIONS], []
    usable = [number for number, option in enumerate(options) if _can_stand(option, words)]
    for many in range(len(usable) + 1):
        for numbers in combinations(usable, many):
            names = tuple([options[number][NAME] for number in numbers])
            if all([_holds(group, names) for group in command[GROUPS]]):
                found.append(names)
    return tuple(found)


def _can_stand(option, words):
    """Whether an option may stand at all: its kind, where it has one, has a worth."""
    name = own_name(option[KIND])
    return name is None or len(words[name]) > 0


def _holds(group, names):
    """Whether a group holds where just options of these names stand."""
    word, grouped = group
    standing = len([name for name in grouped if name in names])
    if word == "just":
        return standing == 1
    if word == "most":
        return standing <= 1
    if word == "with":
        return standing in (0, len(grouped))
    return grouped[0] not in names or standing == len(grouped)


def command_at(grammar, path):
    """The command of a Grammar's path; refused with NoGrammar, NotThere."""
    if not isinstance(grammar, Grammar):
        raise NoGrammar(grammar)
    return grammar.command(path)


def sets(grammar, path):
    """Which sets of a command's options may stand together, a new list; refused with NoGrammar, NotThere."""
    command_at(grammar, path)
    return list(grammar.sets_at(path))


def fits_some(grammar, path, on, off):
    """Whether some set has all of on and none of off; refused with NoGrammar, NotThere, NoList."""
    names = [option[NAME] for option in command_at(grammar, path)[OPTIONS]]
    for thing in (on, off):
        if not are_among(thing, names):
            raise NoList(thing)
    return has_between(grammar.sets_at(path), on, off)


def are_among(thing, names):
    """Whether the thing is a list of some of these names."""
    return isinstance(thing, (list, tuple)) and all([name in names for name in thing])


def has_between(found, on, off):
    """Whether one of these sets has all of on and none of off."""
    for names in found:
        if all([name in names for name in on]) and not any([name in names for name in off]):
            return True
    return False


def command_words(grammar, path):
    """The beginnings that read of the names beneath a command; refused with NoGrammar, NotThere."""
    return beginnings_of([below[NAME] for below in command_at(grammar, path)[COMMANDS]])


def option_words(grammar, path):
    """The beginnings that read of the names of a command's options; refused with NoGrammar, NotThere."""
    return beginnings_of([option[NAME] for option in command_at(grammar, path)[OPTIONS]])


def flag_words(grammar, path):
    """The beginnings that read of the names of a command's flags; refused with NoGrammar, NotThere."""
    options = command_at(grammar, path)[OPTIONS]
    return beginnings_of([option[NAME] for option in options if option[FORM] == "flag"])


def beginnings_of(names):
    """A dict, in Python's order, from each beginning of just one of the names, and each name, to the name."""
    found = {}
    for name in names:
        for end in range(1, len(name) + 1):
            text = name[:end]
            if text == name or [other for other in names if other.startswith(text)] == [name]:
                found[text] = name
    return {text: found[text] for text in sorted(list(found))}


def goes_bare(grammar, path):
    """Whether a path can be gone to the end without options; refused with NoGrammar, NotThere."""
    command_at(grammar, path)
    return goes_on(grammar, path, True)


def goes(grammar, path):
    """Whether a path can be gone to the end at all; refused with NoGrammar, NotThere."""
    command_at(grammar, path)
    return goes_on(grammar, path, False)


def goes_on(grammar, path, bare):
    """Whether one of the paths can be gone to the end, by the set of none, if bare, or by any."""
    found = grammar.sets_at(path)
    if len(found) == 0 or (bare and () not in found):
        return False
    command = grammar.command(path)
    if command[COMMANDS]:
        return any([goes_on(grammar, path + (below[NAME],), bare) for below in command[COMMANDS]])
    return all([grammar.has_worth(kind) for _, kind, times in command[PLACES] if times in NEEDED])
