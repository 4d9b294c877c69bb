"""Normal forms: what can stand in lists that read, path by path, whatever else a Grammar has."""

from callwords.commands import FORM, KIND, NAME, SHORT
from callwords.kinds import has_any
from callwords.tables import table_with


def counting_paths(grammar):
    """The paths that count, those that can be gone to the end with all above them, a list in Python's order."""
    counting = {}
    for path in grammar.paths():
        if (path == () or path[:-1] in counting) and grammar.node_of(path).goes:
            counting[path] = True
    return sorted(list(counting))


def normal_at(node):
    """What can stand at a path that counts in lists that read: a tuple of tuples and texts."""
    if node.known_form is None:
        numbers = sorted(list(node.numbers.items()))
        usable = [number for _, number in numbers if node.has_between(1 << number, 0)]
        offs = [number for _, number in numbers if _can_be_off(node, number)]
        options, flags, commands = node.texts()
        node.known_form = (
            tuple([_option_form(node.options[number], node.owns[number]) for number in usable]),
            tuple(sorted([tuple([name for name, number in numbers if bits >> number & 1]) for bits in node.fitting])),
            tuple([node.options[number][NAME] for number in offs]),
            tuple([(text, node.options[options[text]][NAME]) for text in options if options[text] in usable]),
            tuple([(text, node.options[flags[text]][NAME]) for text in flags if flags[text] in offs]),
            tuple([(text, commands[text].way[-1]) for text in commands if commands[text].goes]),
            _places_form(node),
        )
    return node.known_form


def _can_be_off(node, number):
    """Whether an option is a flag that some set lacks."""
    return node.options[number][FORM] == "flag" and node.has_between(0, 1 << number)


def _option_form(option, own):
    """What an option is to lists that read."""
    kind = option[KIND]
    return option[NAME], option[FORM], option[SHORT] or "", () if kind is None else table_with(kind, own)


def _places_form(node):
    """The places up to the first whose kind has no worth, tuples (name, times, table)."""
    found = []
    for (name, kind, times), own in zip(node.place_parts, node.place_owns):
        if not has_any(kind, own):
            break
        found.append((name, times, table_with(kind, own)))
    return tuple(found)


def normals(grammar):
    """A dict from the paths that count, in Python's order, to what can stand there."""
    return {path: normal_at(grammar.node_of(path)) for path in counting_paths(grammar)}
