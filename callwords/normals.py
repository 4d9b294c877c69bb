"""Normal forms: what can stand in lists that read, path by path, whatever else a Grammar has."""

from callwords.commands import COMMANDS, FORM, KIND, NAME, OPTIONS, PLACES, SHORT, WITH_KIND
from callwords.grammars import command_words, flag_words, goes_on, option_words
from callwords.tables import table_of


def counting_paths(grammar):
    """The paths that count, those that can be gone to the end with all above them, a list in Python's order."""
    counting = {}
    for path in grammar.paths():
        if (path == () or path[:-1] in counting) and goes_on(grammar, path, False):
            counting[path] = True
    return sorted(list(counting))


def normal_at(grammar, path, counting):
    """What can stand at a path that counts in lists that read: a tuple of tuples and texts."""
    command, found = grammar.command(path), grammar.sets_at(path)
    usable = [option for option in command[OPTIONS] if any([option[NAME] in names for names in found])]
    flags = [option[NAME] for option in command[OPTIONS] if option[FORM] == "flag"]
    offs = [name for name in flags if not all([name in names for names in found])]
    beneath = [below[NAME] for below in command[COMMANDS] if path + (below[NAME],) in counting]
    return (
        tuple(sorted([_option_form(grammar, option) for option in usable])),
        tuple(sorted([tuple(sorted(list(names))) for names in found])),
        tuple(sorted(offs)),
        _words_to(option_words(grammar, path), [option[NAME] for option in usable]),
        _words_to(flag_words(grammar, path), offs),
        _words_to(command_words(grammar, path), beneath),
        _places_form(grammar, command),
    )


def _option_form(grammar, option):
    """What an option is to lists that read."""
    table = table_of(grammar, option[KIND]) if option[FORM] in WITH_KIND else ()
    return option[NAME], option[FORM], option[SHORT] or "", table


def _words_to(words, names):
    """Those beginnings that read to one of these names, tuples (text, name)."""
    return tuple([(text, name) for text, name in words.items() if name in names])


def _places_form(grammar, command):
    """The places up to the first whose kind has no worth, tuples (name, times, table)."""
    found = []
    for name, kind, times in command[PLACES]:
        if not grammar.has_worth(kind):
            break
        found.append((name, times, table_of(grammar, kind)))
    return tuple(found)


def normals(grammar):
    """A dict from the paths that count, in Python's order, to what can stand there."""
    counting = counting_paths(grammar)
    return {path: normal_at(grammar, path, counting) for path in counting}
