"""The shortest words that give one command its options: letters in as few words as forty signs let."""

from itertools import combinations

from callwords.commands import FORM, SHORT, WITH_KIND
from callwords.kinds import MOST_SIGNS, number_word
from callwords.lines import quoted

MOST_FURTHER = 2


class Part:
    """A worth, as a word, of an option that has a letter; named is the word that gives it by the option's name."""

    def __init__(self, letter, word, named):
        self.letter = letter
        self.word = word
        self.named = named


def length(words):
    """How long a list of words is: how many there are, then how many signs they have, quoted, blanks between apart."""
    return len(words), sum([len(quoted(word)) for word in words])


def worth_word(worth):
    """The word of a worth that is known to be one."""
    return worth if isinstance(worth, str) else number_word(worth)


def row_words(node, row):
    """The shortest words that give a command's options just their worths, tuples (name, worth) of those that stand."""
    if not row:
        return []
    alone, letters, parts = _taken_apart(node, row)
    return alone + _packed(letters, parts)


def _taken_apart(node, row):
    """The words that stand alone, the letters of flags and counts, and the Parts."""
    names, off_names, _ = node.shortest()
    alone, letters, parts = [], "", []
    for name, worth in row:
        number = node.numbers[name]
        letter, form = node.options[number][SHORT], node.options[number][FORM]
        if form in WITH_KIND:
            for one in worth if form == "many" else (worth,):
                word = worth_word(one)
                named = "--" + names[number] + "=" + word
                if letter is None:
                    alone.append(named)
                else:
                    parts.append(Part(letter, word, named))
        elif worth == 0:
            alone.append("--no-" + off_names[number])
        elif letter is None:
            alone += ["--" + names[number]] * worth
        else:
            letters += letter * worth
    return alone, letters, parts


def _packed(letters, parts):
    """The shortest words of letters and Parts: as few further words as hold all letters, the cheapest such."""
    lacking = len(letters) - sum([_room_ahead(part) for part in parts])
    if lacking <= 0:
        return _written(letters, parts, ())
    # None stands for a word of letters alone, a Part's number for its worth in a word behind its letter.
    further = [None, None] + list(range(len(parts)))
    found = []
    for many in range(1, MOST_FURTHER + 1):
        if not found:
            for chosen in combinations(further, many):
                if sum([_gained(parts, number) for number in chosen]) >= lacking:
                    found.append((sum([_cost(parts, number) for number in chosen]), len(found), chosen))
    return _written(letters, parts, min(found)[2])


def _room_ahead(part):
    """How many letters the word of a Part takes ahead of the Part's own, where the worth stands in it."""
    return 0 if part.word == "" else MOST_SIGNS - 2 - len(part.word)


def _gained(parts, number):
    """How many more letters there is room for by one further word."""
    return MOST_SIGNS - 1 if number is None else MOST_SIGNS - 2 - _room_ahead(parts[number])


def _cost(parts, number):
    """How many more signs one further word costs, blanks and the letters in it apart."""
    if number is None:
        return 1
    part = parts[number]
    return len(quoted("")) + 2 - len(part.named) if part.word == "" else 0


def _written(letters, parts, chosen):
    """The words of letters and Parts, where the further words are chosen."""
    words = []
    for number in chosen:
        if number is None:
            words.append("-" + letters[:MOST_SIGNS - 1])
            letters = letters[MOST_SIGNS - 1:]
    for number, part in enumerate(parts):
        if number in chosen:
            words += ["-" + letters[:MOST_SIGNS - 2] + part.letter, part.word]
            letters = letters[MOST_SIGNS - 2:]
        elif part.word == "":
            words.append(part.named)
        else:
            room = _room_ahead(part)
            words.append("-" + letters[:room] + part.letter + part.word)
            letters = letters[room:]
    return words
