"""Two Grammars compared for all lists of words, and what a Grammar could be without."""

from callwords.commands import COMMANDS, FORM, NAME, OPTIONS
from callwords.errors import NoGrammar
from callwords.grammars import Grammar, command_words, flag_words, option_words
from callwords.lines import are_words
from callwords.nodes import beginnings_of
from callwords.normals import counting_paths, normals
from callwords.parting import Parting
from callwords.steps import read_unlike, walked_to_end


def _look_at(grammars):
    """Refuses the first that is no Grammar."""
    for thing in grammars:
        if not isinstance(thing, Grammar):
            raise NoGrammar(thing)


def compared(one, other):
    """("alike",) of Grammars that read all lists alike, or ("parted", words); refused with NoGrammar."""
    _look_at((one, other))
    ours, theirs = normals(one), normals(other)
    if ours == theirs:
        return ("alike",)
    return "parted", Parting(one, other, ours, theirs).shortest_list()


def normal(grammar):
    """The normal form of a Grammar, a tuple; refused with NoGrammar."""
    _look_at((grammar,))
    return tuple([(path,) + form for path, form in normals(grammar).items()])


def parts_them(one, other, thing):
    """Whether the thing is a list of words that two Grammars read unlike; refused with NoGrammar."""
    _look_at((one, other))
    if not are_words(thing):
        return False
    return read_unlike(walked_to_end(one, thing), walked_to_end(other, thing))


def unlike_paths(one, other):
    """The paths that count in one Grammar alone, or at which the normal forms are unlike; refused with NoGrammar."""
    _look_at((one, other))
    ours, theirs = normals(one), normals(other)
    paths = sorted(list(ours) + [path for path in theirs if path not in ours])
    return [path for path in paths if ours.get(path) != theirs.get(path)]


def idle(grammar):
    """What a Grammar could be without, and what would read then: two new lists; refused with NoGrammar.

    The first holds tuples (path, name), the second tuples (path, word, text, name).
    """
    _look_at((grammar,))
    counting = counting_paths(grammar)
    out, further = [], []
    for path in grammar.paths():
        if path == () or path in counting:
            useless = _useless_options(grammar, path, counting)
            command = grammar.command(path)
            beneath = [below[NAME] for below in command[COMMANDS]]
            options = [option for option in command[OPTIONS] if option[NAME] not in useless]
            flags = [option[NAME] for option in options if option[FORM] == "flag"]
            left = [name for name in beneath if path + (name,) in counting]
            out += [(path, name) for name in useless + [name for name in beneath if name not in left]]
            further += _more(path, "command", beginnings_of(left), command_words(grammar, path))
            further += _more(path, "option", beginnings_of([option[NAME] for option in options]),
                             option_words(grammar, path))
            further += _more(path, "flag", beginnings_of(flags), flag_words(grammar, path))
    return out, further


def _useless_options(grammar, path, counting):
    """The names of a command's options that stand in no list that reads; a flag that can't be on can be off."""
    node = grammar.node_of(path)
    if path not in counting:
        return list(node.numbers)
    return [
        name for name, number in node.numbers.items()
        if node.options[number][FORM] != "flag" and not node.has_between(1 << number, 0)
    ]


def _more(path, word, then, now):
    """The beginnings that would read to a name then, and don't now."""
    return [(path, word, text, name) for text, name in then.items() if now.get(text) != name]
