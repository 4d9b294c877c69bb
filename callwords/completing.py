"""Half lines: the known words with which one goes on, and what is meant by words that don't read."""

from callwords.commands import KIND
from callwords.errors import NoGrammar, NoList, NoNumber, NoWord, Reads
from callwords.grammars import Grammar
from callwords.kinds import is_whole, is_word, words_of
from callwords.lines import state_of, written_behind
from callwords.reading import look_at
from callwords.steps import LONG, behind_letters, is_end, is_like_option, is_live, next_place, taken, walked, wants

MOST_FAR = 2


def known(grammar, words, begun):
    """The known words for a begun text, behind words that are whole; refused with NoGrammar, NoList, NoWord."""
    look_at(grammar, words)
    if not is_word(begun):
        raise NoWord(begun)
    spot, at = walked(grammar, words)
    return _known_at(spot, begun) if at == len(words) else []


def _known_at(spot, begun):
    """The known words for a begun text, where a line is behind its whole words."""
    found = {}
    for word in _wanted_words(spot) + _joined_words(spot, begun):
        # What is longer than forty signs is no word, though the begun one may lead there.
        if word.startswith(begun) and is_word(word) and is_live(taken(spot, word)):
            found[word] = True
    return list(found)


def _wanted_words(spot):
    """The wanted words, and the known words of a wanted kind."""
    found = []
    for thing in wants(spot):
        found += [thing] if isinstance(thing, str) else _bare_words(spot, thing)
    return found


def _bare_words(spot, kind):
    """The known words of a kind that is wanted at a spot, of the option that waits, or of the next place."""
    node = spot.node
    return words_of(kind, node.place_owns[next_place(spot)] if spot.waiting is None else node.owns[spot.waiting])


def _option_words(node, number):
    """The known words of an option's kind, none where it has no kind."""
    kind = node.options[number][KIND]
    return [] if kind is None else words_of(kind, node.owns[number])


def _joined_words(spot, begun):
    """Words that go on with a begun one of options: behind its `=`, or behind its letters."""
    if spot.waiting is not None or not spot.free or not is_like_option(begun):
        return []
    return _behind_name(spot, begun) if begun.startswith(LONG) else _behind_letter(spot, begun)


def _behind_name(spot, begun):
    """A word of an option's name and `=`, with each known word behind."""
    head, sign, _ = begun.partition("=")
    number = spot.node.texts()[0].get(head[len(LONG):])
    if sign == "" or number is None:
        return []
    return [head + "=" + word for word in _option_words(spot.node, number)]


def _behind_letter(spot, begun):
    """A word of letters, with each further letter, or, up to the letter of an option with worths, each known word."""
    behind, rest = behind_letters(spot, begun)
    if behind is None:
        return []
    if behind.waiting is None:
        return [begun + letter for letter in spot.node.letters]
    head = begun[:len(begun) - len(rest)]
    return [head + word for word in _option_words(spot.node, behind.waiting) if word != ""]


def going_on(grammar, line):
    """How a line that breaks off may go on, a new list of tuples (word, text); refused with NoGrammar, as state_of."""
    state, words = _state_and_known(grammar, line)
    return [(word, written_behind(state, word)) for word in words]


def _state_and_known(grammar, line):
    """The state of a line that breaks off, and the known words there; refused with NoGrammar, as state_of."""
    if not isinstance(grammar, Grammar):
        raise NoGrammar(grammar)
    state = state_of(line)
    return state, known(grammar, state[0], state[1] or "")


def in_common(grammar, line):
    """The longest text with which all words begin that go on with a line, the begun text where there are none."""
    state, words = _state_and_known(grammar, line)
    if not words:
        return state[1] or ""
    low, high = min(words), max(words)
    # What the first and the last word in Python's order have in common, all between have, too.
    same = 0
    while same < len(low) and same < len(high) and low[same] == high[same]:
        same += 1
    return low[:same]


def far(one, other):
    """How many steps two words are from one another, None where more than 2; refused with NoWord."""
    for thing in (one, other):
        if not is_word(thing):
            raise NoWord(thing)
    if abs(len(one) - len(other)) > MOST_FAR:
        return None
    steps = _steps(one, other)
    return steps if steps <= MOST_FAR else None


def _steps(one, other):
    """The fewest steps from one word to another.

    After Lowrance and Wagner: an exchange of neighbours may go ahead of what is put in or left out between them.
    Row i + 1, place j + 1, tells the steps from the first i signs to the first j; no step leads over the edge.
    """
    edge = len(one) + len(other) + 1
    rows = [[edge] * (len(other) + 2), [edge] + list(range(len(other) + 1))]
    last = {}
    for at, sign in enumerate(one):
        above, row, met = rows[-1], [edge, at + 1], 0
        for place, against in enumerate(other):
            came = last.get(against, 0)
            fewest = rows[came][met] + (at - came) + (place - met) + 1
            if sign == against:
                met = place + 1
                fewest = min(fewest, above[place + 1])
            else:
                fewest = min(fewest, above[place + 1] + 1)
            row.append(min(fewest, row[place + 1] + 1, above[place + 2] + 1))
        rows.append(row)
        last[sign] = at + 1
    return rows[-1][-1]


def nearest(word, words, *, most=MOST_FAR):
    """The nearest ones of words, a new list of tuples (word, far); refused with NoWord, NoList, NoNumber."""
    if not is_word(word):
        raise NoWord(word)
    if not isinstance(words, (list, tuple)) or not all([is_word(thing) for thing in words]):
        raise NoList(words)
    if not is_whole(most, 1, MOST_FAR):
        raise NoNumber(most)
    found = {thing: far(word, thing) for thing in words}
    return [(thing, many) for many in range(most + 1) for thing in found if found[thing] == many]


def meant(grammar, words):
    """The number of the wrong word, and the nearest known words there; refused with NoGrammar, NoList, Reads."""
    look_at(grammar, words)
    spot, at = walked(grammar, words)
    if at == len(words):
        if is_end(spot):
            raise Reads(words)
        return at, []
    return at, [word for word, _ in nearest(words[at], _known_at(spot, ""))]
