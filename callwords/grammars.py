"""Grammars: which commands there are, which of their options stand together, which shortened names read."""

from callwords.commands import NAME, OPTIONS, PLACES, is_path, own_name
from callwords.errors import NoGrammar, NoKind, NoList, NoOwn, NotThere
from callwords.fitting import asked, fitted, is_table
from callwords.kinds import is_kind
from callwords.nodes import nodes_of


class Grammar:
    """A root command, all beneath it, and a table of own words. It never changes."""

    def __init__(self, root, *, own=None):
        table = {} if own is None else own
        if not is_table(table):
            raise NoOwn(own)
        self._own = {name: table[name] for name in table}
        commands, words = fitted(root, self._own)
        self._root = root
        self._commands = commands
        self._words = words
        # Made when first asked for: many a Grammar is made to be looked at alone.
        self._nodes = None

    def root(self):
        """The root command."""
        return self._root

    def paths(self):
        """All paths, a new list: each command's, then those beneath it, ahead of the next one beside it."""
        return list(self._commands)

    def is_there(self, path):
        """Whether the thing is one of the paths."""
        return is_path(path) and path in self._commands

    def command(self, path):
        """The command of a path; refused with NotThere."""
        if not self.is_there(path):
            raise NotThere(path)
        return self._commands[path]

    def option(self, path, name):
        """The option of a path and a name; refused with NotThere."""
        return _named(self.command(path)[OPTIONS], name)

    def place(self, path, name):
        """The place of a path and a name; refused with NotThere."""
        return _named(self.command(path)[PLACES], name)

    def own_words(self, kind):
        """The own words of a kind, a new list, none of other kinds than own; refused with NoKind, NotThere."""
        if not is_kind(kind):
            raise NoKind(kind)
        name = own_name(kind)
        if name is None:
            return []
        if name in self._words:
            return list(self._words[name])
        if name not in self._own:
            raise NotThere(name)
        return list(asked(self._own, name))

    def has_worth(self, kind):
        """Whether a kind has any worth; refused with NoKind, NotThere."""
        words = self.own_words(kind)
        return own_name(kind) is None or len(words) > 0

    def with_root(self, root):
        """A Grammar of another root, with the same own table; refused with Unfit."""
        return Grammar(root, own=self._own)

    def own_of(self, kind):
        """The own words of a kind that the root has, none of other kinds than own, and of no kind."""
        name = own_name(kind)
        return () if name is None else self._words[name]

    def node_of(self, path):
        """The Node of one of the paths."""
        if self._nodes is None:
            self._nodes = nodes_of(self._commands, self._words)
        return self._nodes[path]

    def __eq__(self, other):
        return isinstance(other, Grammar) and self._root == other._root and self._words == other._words

    def __len__(self):
        return len(self._commands)


def _named(parts, name):
    """The one of options or places that has a name; refused with NotThere."""
    for part in parts:
        if part[NAME] == name:
            return part
    raise NotThere(name)


def command_at(grammar, path):
    """The command of a Grammar's path; refused with NoGrammar, NotThere."""
    if not isinstance(grammar, Grammar):
        raise NoGrammar(grammar)
    return grammar.command(path)


def node_at(grammar, path):
    """The Node of a Grammar's path; refused with NoGrammar, NotThere."""
    command_at(grammar, path)
    return grammar.node_of(path)


def sets(grammar, path):
    """Which sets of a command's options may stand together, a new list; refused with NoGrammar, NotThere."""
    return list(node_at(grammar, path).sets())


def fits_some(grammar, path, on, off):
    """Whether some set has all of on and none of off; refused with NoGrammar, NotThere, NoList."""
    node = node_at(grammar, path)
    for thing in (on, off):
        if not are_among(thing, list(node.numbers)):
            raise NoList(thing)
    return node.has_between(_bits(node, on), _bits(node, off))


def _bits(node, names):
    """The number of a set of names, which may stand more than once among them."""
    return sum([1 << node.numbers[name] for name in node.numbers if name in names])


def are_among(thing, names):
    """Whether the thing is a list of some of these names."""
    return isinstance(thing, (list, tuple)) and all([name in names for name in thing])


def command_words(grammar, path):
    """The beginnings that read of the names beneath a command; refused with NoGrammar, NotThere."""
    _, _, commands = node_at(grammar, path).texts()
    return {text: commands[text].way[-1] for text in commands}


def option_words(grammar, path):
    """The beginnings that read of the names of a command's options; refused with NoGrammar, NotThere."""
    node = node_at(grammar, path)
    return _named_texts(node, node.texts()[0])


def flag_words(grammar, path):
    """The beginnings that read of the names of a command's flags; refused with NoGrammar, NotThere."""
    node = node_at(grammar, path)
    return _named_texts(node, node.texts()[1])


def _named_texts(node, texts):
    """A dict from texts to names of options, of one to their numbers."""
    return {text: node.options[texts[text]][NAME] for text in texts}


def goes_bare(grammar, path):
    """Whether a path can be gone to the end without options; refused with NoGrammar, NotThere."""
    return node_at(grammar, path).goes_bare


def goes(grammar, path):
    """Whether a path can be gone to the end at all; refused with NoGrammar, NotThere."""
    return node_at(grammar, path).goes
