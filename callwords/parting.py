"""The shortest loose list of words that two Grammars read unlike.

At a path of which the normal forms are equal no word parts them, so a list goes past it by the fewest words. At any
other one pairs of spots, one of each Grammar, are gone through, those ahead that may come to an end by fewer words.
"""

from heapq import heappop, heappush

from callwords.commands import FORM, KIND, NAME
from callwords.pairing import pair_words, words_left
from callwords.steps import LONG, fresh, is_like_option, read_unlike, taken
from callwords.worthing import shared_word

COMMAND_TEXTS = 5


def key_of(spot):
    """All that tells spots of one Grammar apart."""
    return None if spot is None else (spot.node.way, spot.rows, spot.given, spot.placed, spot.free, spot.waiting)


class Parting:
    """Two Grammars that don't read all lists alike, with their normal forms."""

    def __init__(self, one, other, ours, theirs):
        self.one = one
        self.other = other
        self.ours = ours
        self.theirs = theirs
        self.lists = {}

    def shortest_list(self):
        """A shortest loose list that they read unlike."""
        if () not in self.ours or () not in self.theirs:
            return self._searched(())
        for path in sorted(list(self.ours), key=len, reverse=True):
            if path in self.theirs:
                same = self.ours[path] == self.theirs[path]
                self.lists[path] = self._gone_past(path) if same else self._searched(path)
        return self.lists[()]

    def _gone_past(self, path):
        """The shortest list behind a path at which both are the same, or None where nothing beneath parts them."""
        best = None
        for text, name in self.ours[path][COMMAND_TEXTS]:
            words = self.lists[path + (name,)]
            if words is not None and (best is None or len(words) + 1 < len(best)):
                best = [text] + words
        return None if best is None else self._fewest_options(path) + best

    def _fewest_options(self, path):
        """Words of options that let a command be left, as few as may be."""
        node, other, found = self.one.node_of(path), self.other.node_of(path), []
        for name in node.sets()[0]:
            number, against = node.numbers[name], other.numbers[name]
            kind, beside, worth = node.options[number][KIND], other.options[against][KIND], ""
            if kind is not None:
                worth = "=" + shared_word(kind, node.owns[number], beside, other.owns[against])
            found.append(LONG + name + worth)
        return found

    def _searched(self, path):
        """The shortest list behind a path, or None where none parts them, by going through pairs of spots."""
        coming, rows, seen = [], [], {}
        self._put(coming, rows, fresh(self.one.node_of(path)), fresh(self.other.node_of(path)), [])
        while coming:
            _, _, number = heappop(coming)
            spot, against, words, is_whole = rows[number]
            key = (key_of(spot), key_of(against))
            if is_whole:
                return words
            if key not in seen:
                seen[key] = True
                if read_unlike(spot, against):
                    return words
                for word in pair_words(spot, against):
                    self._step(coming, rows, (spot, against, words), word)
        return None

    def _put(self, coming, rows, spot, against, words):
        """A pair of spots comes to be gone through, where one of them may come to an end."""
        ends = [words_left(spot), words_left(against)]
        fewest = min([end for end in ends if end is not None], default=None)
        if fewest is not None:
            heappush(coming, (len(words) + fewest, -len(words), len(rows)))
            rows.append((spot, against, words, False))

    def _step(self, coming, rows, pair, word):
        """What comes of a pair of spots by a further word."""
        spot, against, words = pair
        behind, beside = _further(spot, word), _further(against, word)
        if behind is None and beside is None:
            return
        if _is_joined(spot, behind, word) or _is_joined(against, beside, word):
            return
        if behind is not None and beside is not None:
            if _gives_nothing_new((spot, behind), (against, beside)):
                return
            if self._came_beneath(spot, behind, beside):
                self._put_whole(coming, rows, words + [word], behind.node.way)
                return
        self._put(coming, rows, behind, beside, words + [word])

    def _came_beneath(self, spot, behind, beside):
        """Whether a word brings a command beneath to hand in both alike, which counts in both."""
        path = behind.node.way
        if path == spot.node.way or path != beside.node.way or not behind.free or not beside.free:
            return False
        return path in self.lists and _sorted_rows(behind) == _sorted_rows(beside)

    def _put_whole(self, coming, rows, words, path):
        """A list goes on as the shortest one behind a path does, where any does."""
        if self.lists[path] is not None:
            whole = words + self.lists[path]
            heappush(coming, (len(whole), -len(whole), len(rows)))
            rows.append((None, None, whole, True))


def _further(spot, word):
    """Where a line is behind a further word, or None."""
    return None if spot is None else taken(spot, word)


def _is_joined(spot, behind, word):
    """Whether a word is taken letter by letter, with a sign behind its first letter."""
    if behind is None or spot.waiting is not None or not spot.free:
        return False
    return is_like_option(word) and not word.startswith(LONG) and len(word) > 2


def _sorted_rows(spot):
    """What was given above a command, each command's options in Python's order."""
    return [sorted(list(row)) for row in spot.rows]


def _gives_nothing_new(steps, beside):
    """Whether a word turns the same flag off in both, or gives both a count more than once.

    A list without it parts them too, so that no shortest list has it.
    """
    given, against = _change_in(steps), _change_in(beside)
    if given is None or against is None or given[0] != against[0]:
        return False
    if given[1:] == ("flag", None, 0):
        return against[1:] == ("flag", None, 0)
    return given[1] == "count" and against[1] == "count" and given[2] is not None and against[2] is not None


def _change_in(steps):
    """The option that one word gives anything: its name, form, and what it was given ahead and behind; or None."""
    ahead, behind = steps
    if ahead.node.way != behind.node.way:
        return None
    for option, had, has in zip(ahead.node.options, ahead.given, behind.given):
        if had != has:
            return option[NAME], option[FORM], had, has
    return None
