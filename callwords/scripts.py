"""Scripts: rows of lines run by deeds, cut amid, and taken back."""

from callwords.commands import COMMANDS, is_path
from callwords.desk import Desk
from callwords.editions import Editions
from callwords.errors import Barred, BadSign, Busy, CallError, Lacks, Missing, NoAnswer, NoDeeds, NoGrammar, NoLine
from callwords.errors import NoList, NoNumber, NotThere, Over, Stuck, TooMany, Unread, Wrong
from callwords.grammars import Grammar
from callwords.kinds import is_name, is_whole, is_word
from callwords.layers import Call, called, look_at_layers
from callwords.lines import cut, is_line
from callwords.logs import MOST_ROWS, could_be_log
from callwords.reading import read

BECOMES = "="
REMARK = "#"
KEPT = "$"
ANSWER_PARTS = 2


def is_log(many, thing):
    """Whether the thing can be the log of a Script of so many rows; refused with NoNumber."""
    return could_be_log(many, thing)


def _can_be_def(thing):
    """Whether the thing is none of those that are surely no def, as objects of the package are."""
    if thing is None or isinstance(thing, (int, str, bytes, list, tuple, dict)):
        return False
    return not isinstance(thing, (Grammar, Call, Editions, Script, Desk, CallError, Missing, Barred))


def _are_deeds(thing):
    """Whether the thing is a dict from tuples of names to defs."""
    return isinstance(thing, dict) and all([is_path(path) and _can_be_def(deed) for path, deed in thing.items()])


def _answered(told):
    """What a deed told, a tuple (answer, undo); refused with NoAnswer."""
    if not isinstance(told, tuple) or len(told) != ANSWER_PARTS or not is_word(told[0]):
        raise NoAnswer(told)
    if told[1] is not None and not _can_be_def(told[1]):
        raise NoAnswer(told)
    return told


def _taken_apart(row):
    """The name by which a row's answer is kept, or None, and the words of its line; None where nothing is done."""
    words = cut(row)
    if len(words) == 0 or words[0].startswith(REMARK):
        return None
    if len(words) > 1 and words[1] == BECOMES and is_name(words[0]):
        return words[0], words[2:]
    return None, words


def _filled_in(words, kept):
    """Words with what is kept in the place of `$` and its name; refused with NotThere of the name."""
    found = []
    for word in words:
        name = word[len(KEPT):]
        if word.startswith(KEPT) and is_name(name):
            if name not in kept:
                raise NotThere(name)
            word = kept[name]
        found.append(word)
    return found


class Script:
    """Rows of lines, run by deeds. A Script changes by its steps, and by what is taken back."""

    def __init__(self, grammar, deeds, rows, *, room=None, book=None):
        _look_at(grammar, deeds, rows)
        look_at_layers(room, book)
        for path in grammar.paths():
            if not grammar.command(path)[COMMANDS] and path not in deeds:
                raise NotThere(path)
        self._grammar = grammar
        self._deeds = {path: deeds[path] for path in deeds}
        self._rows = list(rows)
        self._room = None if room is None else {name: room[name] for name in room}
        self._book = None if book is None else {key: book[key] for key in book}
        self._told = []
        # Of each row gone by, in order, what was kept ahead of it; and the rows done, tuples (number, undo).
        self._ahead = []
        self._done = []
        self._words = {}
        self._at_work = None

    def step(self):
        """The next row is done: the log's new rows, a new list; refused with Busy, Over, NoAnswer, as a deed breaks."""
        self._refuse_busy()
        at, told = len(self._ahead), len(self._told)
        if at == len(self._rows):
            raise Over(at)
        self._ahead.append({name: self._words[name] for name in self._words})
        found = self._begun(at)
        if found is not None:
            self._do(at, found)
        return self._told[told:]

    def _begun(self, at):
        """A row's Call, deed, and the name by which its answer is kept, or None where it comes to no deed."""
        try:
            apart = _taken_apart(self._rows[at])
            if apart is None:
                self._told.append(("passed", at))
                return None
            words = _filled_in(apart[1], self._words)
            call = called(self._grammar, read(self._grammar, words), room=self._room, book=self._book)
        except Wrong as wrong:
            self._told.append(("refused", at, wrong.at))
            return None
        except (BadSign, TooMany, NotThere, Unread, Lacks):
            self._told.append(("refused", at, None))
            return None
        self._told.append(("begun", at, tuple(words)))
        return call, self._deeds[call.path()], apart[0]

    def _do(self, at, found):
        """A row's deed is asked, and its answer kept; refused with NoAnswer, and as it breaks off."""
        call, deed, name = found
        kept, answered = self.kept(), None
        self._at_work = at
        try:
            answered = _answered(deed(call, kept))
        finally:
            self._at_work = None
            if answered is None:
                self._told.append(("broke", at))
        answer, undo = answered
        if name is not None:
            self._words[name] = answer
        self._done.append((at, undo))
        self._told.append(("done", at, answer))

    def run(self, many=MOST_ROWS):
        """So many steps, up to the end or one that is refused: the log's new rows; refused with NoNumber, as step."""
        if not is_whole(many, 0, MOST_ROWS):
            raise NoNumber(many)
        self._refuse_busy()
        told = len(self._told)
        for _ in range(min(many, len(self._rows) - len(self._ahead))):
            if self.step()[0][0] == "refused":
                break
        return self._told[told:]

    def back(self, number):
        """What was done from a row on is undone, the last one first; refused with NoNumber, Busy, Stuck."""
        if not is_whole(number, 0, len(self._ahead)):
            raise NoNumber(number)
        self._refuse_busy()
        for at, undo in reversed(self._done):
            if at >= number and undo is None:
                raise Stuck(at)
        while self._done and self._done[-1][0] >= number:
            at, undo = self._done[-1]
            # Where the undo breaks off, the row behind it is the next one.
            self._go_back(at + 1)
            self._undo(at, undo)
            self._done.pop()
            self._told.append(("back", at))
        self._go_back(number)

    def _undo(self, at, undo):
        """A row's undo is asked."""
        self._at_work = at
        try:
            undo()
        finally:
            self._at_work = None

    def _go_back(self, number):
        """A row is the next one, and what is kept is as it was ahead of it."""
        if number < len(self._ahead):
            self._words = self._ahead[number]
            self._ahead = self._ahead[:number]

    def _refuse_busy(self):
        """Refuses what can't be while a deed or an undo is asked."""
        if self._at_work is not None:
            raise Busy(self._at_work)

    def next_row(self):
        """The number of the next row."""
        return len(self._ahead)

    def kept(self):
        """The kept words, a new dict from names, in Python's order."""
        return {name: self._words[name] for name in sorted(list(self._words))}

    def became(self, number):
        """The first word of the log's last row of a row's number but `begun`, or None; refused with NotThere."""
        if not is_whole(number, 0, len(self._rows) - 1):
            raise NotThere(number)
        words = [row[0] for row in self._told if row[1] == number and row[0] != "begun"]
        return words[-1] if words else None

    def log(self):
        """The log, a new list of tuples."""
        return list(self._told)

    def is_over(self):
        """Whether all rows are gone by."""
        return len(self._ahead) == len(self._rows)


def _look_at(grammar, deeds, rows):
    """Refuses what is no Grammar, no table of deeds, no list of lines."""
    if not isinstance(grammar, Grammar):
        raise NoGrammar(grammar)
    if not _are_deeds(deeds):
        raise NoDeeds(deeds)
    if not isinstance(rows, (list, tuple)) or len(rows) > MOST_ROWS:
        raise NoList(rows)
    for row in rows:
        if not is_line(row):
            raise NoLine(row)
