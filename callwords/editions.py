"""Editions of a grammar: what changes make of it, and the words and readings of elder ones led over to newer ones."""

from callwords.changes import change_steps
from callwords.commands import COMMANDS, NAME, OPTIONS
from callwords.errors import NoCall, NoGrammar, NoReading, NotThere, NoWay
from callwords.grammars import Grammar, command_words, flag_words, option_words
from callwords.kinds import is_whole
from callwords.layers import Call
from callwords.leading import call_led, led_over, name_led, path_led
from callwords.lines import MOST_WORDS
from callwords.reading import read, reads
from callwords.readings import is_reading
from callwords.writing import shortest


def changed(grammar, changes):
    """The Grammar that comes of changes; refused with NoGrammar, NoList, then NoChange, NotThere, Unfit of each."""
    return _last(grammar, change_steps(grammar, changes))


def _last(grammar, steps):
    """The Grammar behind all steps."""
    return steps[-1][2] if steps else grammar


def led_reading(grammar, changes, reading):
    """A reading led over changes; refused as changed, then with NoReading, Gone."""
    steps = change_steps(grammar, changes)
    if not is_reading(grammar, reading):
        raise NoReading(reading)
    return led_over(steps, reading)


def same_call(one, other, grammar, changes):
    """Whether the other Call means behind changes of a Grammar what the one meant; refused with NoCall, as changed."""
    for call in (one, other):
        if not isinstance(call, Call):
            raise NoCall(call)
    path, worths, places = call_led(change_steps(grammar, changes), one)
    return path == other.path() and worths == other.worths() and places == other.places()


def _otherwise(was, now, led):
    """Which texts read to another name now, of dicts from texts to names, and one from elder names to new ones."""
    found = []
    for text, name in was.items():
        new = led[name]
        if new is None or new != now.get(text):
            found.append((text, name if new is None else new, now.get(text)))
    return found


class Editions:
    """A Grammar, number 0, and those that come of it by lists of changes. They change by what is added alone."""

    def __init__(self, grammar):
        if not isinstance(grammar, Grammar):
            raise NoGrammar(grammar)
        self._grammars = [grammar]
        self._steps = [[]]

    def add(self, changes):
        """Another edition, by changes of the last one; refused as changed."""
        steps = change_steps(self._grammars[-1], changes)
        self._grammars.append(_last(self._grammars[-1], steps))
        self._steps.append(steps)

    def __len__(self):
        return len(self._grammars)

    def grammar(self, number):
        """The Grammar of an edition; refused with NotThere."""
        return self._grammars[self._looked_at(number, 0)]

    def changes(self, number):
        """The changes that made an edition, a tuple; refused with NotThere."""
        return tuple([change for _, change, _ in self._steps[self._looked_at(number, 0)]])

    def _looked_at(self, number, least):
        """The number of an edition, not less than another one; refused with NotThere."""
        if not is_whole(number, least, len(self._grammars) - 1):
            raise NotThere(number)
        return number

    def _steps_over(self, since, to):
        """All steps from an edition to one that is no elder; refused with NotThere of the first, of the other."""
        steps = []
        for number in range(self._looked_at(since, 0) + 1, self._looked_at(to, since) + 1):
            steps += self._steps[number]
        return steps

    def led(self, words, *, since=0, to):
        """Words of an edition led to a newer one, ("same", words) or ("mended", words).

        Refused with NotThere of since, of to, as read, with Gone, NoWay.
        """
        steps = self._steps_over(since, to)
        reading = led_over(steps, read(self._grammars[since], words))
        newer = self._grammars[to]
        if not is_reading(newer, reading):
            raise NoWay(reading)
        if reads(newer, words) and read(newer, words) == reading:
            return "same", list(words)
        mended = shortest(newer, reading)
        if len(mended) > MOST_WORDS:
            raise NoWay(reading)
        return "mended", mended

    def beginnings(self, path, *, since=0, to):
        """Which beginnings of commands, options and flags read otherwise, a tuple of three new lists (text, was, now).

        Refused with NotThere of since, of to, of the path.
        """
        steps = self._steps_over(since, to)
        elder, newer = self._grammars[since], self._grammars[to]
        elder.command(path)
        further = path_led(steps, path)
        names = [below[NAME] for below in elder.command(path)[COMMANDS]]
        commands = {name: path_led(steps, path + (name,))[-1] for name in names}
        options = {option[NAME]: name_led(steps, path, option[NAME]) for option in elder.command(path)[OPTIONS]}
        return (
            _otherwise(command_words(elder, path), command_words(newer, further), commands),
            _otherwise(option_words(elder, path), option_words(newer, further), options),
            _otherwise(flag_words(elder, path), flag_words(newer, further), options),
        )
