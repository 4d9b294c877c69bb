"""Grammars as texts: written as rows, and read back."""

from callwords.books import is_text
from callwords.commands import COMMANDS, GROUPS, NAME, OPTIONS, PLACES, is_path
from callwords.errors import BadSign, NoGrammar, NoLine, NoRow, NoText, TooMany
from callwords.grammars import Grammar
from callwords.kinds import is_name
from callwords.lines import cut
from callwords.rowforms import group_of, group_row, option_of, option_row, place_of, place_row


def grammar_text(grammar):
    """The rows that write a Grammar; refused with NoGrammar."""
    if not isinstance(grammar, Grammar):
        raise NoGrammar(grammar)
    rows = ["name " + grammar.root()[NAME]]
    for path in grammar.paths():
        command = grammar.command(path)
        rows.append(" ".join(["command", *path]))
        rows += [option_row(option) for option in command[OPTIONS]]
        rows += [place_row(place) for place in command[PLACES]]
        rows += [group_row(group) for group in command[GROUPS]]
    return "\n".join(rows)


class Draft:
    """A root as far as rows tell it: its name, and of each path a list of parts."""

    def __init__(self):
        self.name = None
        self.parts = {}
        self.last = None

    def take(self, words):
        """A row of these words, one at least, is taken; whether it is one, and may stand there."""
        word, rest = words[0], words[1:]
        if self.name is None:
            if word != "name" or len(rest) != 1 or not is_name(rest[0]):
                return False
            self.name = rest[0]
            return True
        if word == "command":
            return self._take_path(tuple(rest))
        if self.last is None:
            return False
        return self._take_part(word, rest)

    def _take_path(self, path):
        """The row of a command is taken, the root's ahead of all, each other one behind that above it."""
        if not is_path(path) or path in self.parts or (path != () and path[:-1] not in self.parts):
            return False
        self.parts[path] = ([], [], [], [])
        if path != ():
            self.parts[path[:-1]][COMMANDS - 1].append(path)
        self.last = path
        return True

    def _take_part(self, word, rest):
        """The row of an option, a place or a group is taken."""
        if word == "option":
            return self._put(OPTIONS, option_of(rest))
        if word == "place":
            return self._put(PLACES, place_of(rest))
        return word == "group" and self._put(GROUPS, group_of(rest))

    def _put(self, at, part):
        """A part comes to the last command; whether it is one."""
        if part is not None:
            self.parts[self.last][at - 1].append(part)
        return part is not None

    def command(self, path):
        """The command of a path."""
        options, places, groups, beneath = self.parts[path]
        name = path[-1] if path else self.name
        return name, tuple(options), tuple(places), tuple(groups), tuple([self.command(below) for below in beneath])


def read_grammar(text, *, own=None):
    """The Grammar that a text writes; refused with NoText, NoRow, then NoOwn, Unfit."""
    if not is_text(text):
        raise NoText(text)
    draft, rows = Draft(), text.split("\n")
    for at, row in enumerate(rows):
        words = _words_of(row, at)
        if words and not draft.take(words):
            raise NoRow(at)
    if draft.last is None:
        raise NoRow(len(rows))
    return Grammar(draft.command(()), own=own)


def _words_of(row, at):
    """The words of a row; refused with NoRow."""
    try:
        return cut(row)
    except (NoLine, BadSign, TooMany):
        raise NoRow(at)
