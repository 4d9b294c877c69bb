"""A line word by word: where it is behind its words, what a further word does there, and which ones may come."""

from callwords.commands import FORM, KIND, MOST_REST, NAME, REPEATED, SHORT, WITH_KIND
from callwords.kinds import MOST_COUNT, MOST_MANY, begins, worth_in

CLOSING = "--"
LONG = "--"
OFF = "--no-"
SHORTLY = "-"
LETTERS = "abcdefghijklmnopqrstuvwxyz"


class Spot:
    """Where a line is behind some words. It never changes.

    node is the command at hand, rows what was given at those above; given holds for each of its options what it was
    given, or None; placed are the worths of its places; free tells whether options are open; waiting is the number of
    the option that waits, or None. on and off are the sets of options that stand, the one that waits too, and of
    flags that are off.
    """

    def __init__(self, node, rows, given, placed, free, waiting, on, off):
        self.node = node
        self.rows = rows
        self.given = given
        self.placed = placed
        self.free = free
        self.waiting = waiting
        self.on = on
        self.off = off


def at_start(grammar):
    """Where a line is ahead of its first word."""
    return fresh(grammar.node_of(()))


def fresh(node):
    """Where a line is that has just come to a command, with options open, whatever stands above."""
    return Spot(node, (), node.nothing, (), True, None, 0, 0)


def is_like_option(text):
    """Whether a word that begins so is one of options, where they are open."""
    return text[:1] == SHORTLY and len(text) > 1 and (text[1] in LETTERS or text[1] == SHORTLY)


def taken(spot, word):
    """Where a line is behind a further word, or None where the word isn't taken."""
    if spot.waiting is not None:
        return _with_worth(spot, word)
    if spot.free and is_like_option(word):
        if word == CLOSING:
            return _closed(spot)
        return _with_long(spot, word) if word.startswith(LONG) else _with_letters(spot, word)
    return _with_command(spot, word) if spot.node.beneath else _with_place(spot, word)


def _closed(spot):
    """Options are closed, for all that follows."""
    return Spot(spot.node, spot.rows, spot.given, spot.placed, False, None, spot.on, spot.off)


def _can_be_given(spot, number):
    """Whether an option may be given a worth more."""
    form, had = spot.node.options[number][FORM], spot.given[number]
    if had is None:
        return True
    return had < MOST_COUNT if form == "count" else form == "many" and len(had) < MOST_MANY


def _given_more(spot, number, worth):
    """An option is given a worth more, or None where it has all that it may have."""
    form, had = spot.node.options[number][FORM], spot.given[number]
    if not _can_be_given(spot, number):
        return None
    if form == "count":
        worth = (had or 0) + 1
    elif form == "many":
        worth = (had or ()) + (worth,)
    given = spot.given[:number] + (worth,) + spot.given[number + 1:]
    on, off = spot.on, spot.off
    if form == "flag" and worth == 0:
        off = off | 1 << number
    else:
        on = on | 1 << number
    return Spot(spot.node, spot.rows, given, spot.placed, spot.free, None, on, off)


def _given_by_name(spot, number):
    """An option is named: a flag or a count is given, any other one waits; None where it has all it may have."""
    if spot.node.options[number][FORM] not in WITH_KIND:
        return _given_more(spot, number, 1)
    if not _can_be_given(spot, number):
        return None
    return Spot(spot.node, spot.rows, spot.given, spot.placed, spot.free, number, spot.on | 1 << number, spot.off)


def _with_worth(spot, word):
    """The option that waits takes a word, or None."""
    number = spot.waiting
    worth = worth_in(spot.node.options[number][KIND], word, spot.node.owns[number])
    return None if worth is None else _given_more(spot, number, worth)


def _with_long(spot, word):
    """Behind a word of one option by its name, or None."""
    options, flags, _ = spot.node.texts()
    if word.startswith(OFF):
        number = flags.get(word[len(OFF):])
        return None if number is None else _given_more(spot, number, 0)
    text, sign, rest = word[len(LONG):].partition("=")
    number = options.get(text)
    named = None if number is None else _given_by_name(spot, number)
    if named is None or sign == "":
        return named
    return None if named.waiting is None else _with_worth(named, rest)


def behind_letters(spot, word):
    """Behind letter by letter of a word, up to an option that waits, and what is left then; None where one fails."""
    letters = spot.node.letters
    for at, letter in enumerate(word[1:]):
        if letter not in letters:
            return None, ""
        spot = _given_by_name(spot, letters[letter])
        if spot is None or spot.waiting is not None:
            return spot, word[at + 2:]
    return spot, ""


def _with_letters(spot, word):
    """Behind a word of letters, or None."""
    behind, rest = behind_letters(spot, word)
    return behind if behind is None or rest == "" else _with_worth(behind, rest)


def _with_command(spot, word):
    """Behind the name, or a beginning that reads, of a command beneath, or None where options can't be left so."""
    below = spot.node.texts()[2].get(word)
    if below is None or spot.on not in spot.node.fitting:
        return None
    return Spot(below, spot.rows + (row_of(spot),), below.nothing, (), spot.free, None, 0, 0)


def next_place(spot):
    """The number of the place that the next word fills, or None."""
    places, many = spot.node.place_parts, len(spot.placed)
    if many < len(places):
        return many
    # All words from the last place's number on are its own, where it is one for many.
    if places and places[-1][2] in REPEATED and many < len(places) - 1 + MOST_REST:
        return len(places) - 1
    return None


def _with_place(spot, word):
    """Behind the word of a place, or None."""
    number = next_place(spot)
    if number is None:
        return None
    worth = worth_in(spot.node.place_parts[number][1], word, spot.node.place_owns[number])
    if worth is None:
        return None
    return Spot(spot.node, spot.rows, spot.given, spot.placed + (worth,), spot.free, None, spot.on, spot.off)


def row_of(spot):
    """The options of the command at hand that stand, tuples (name, worth)."""
    options = spot.node.options
    return tuple([(option[NAME], worth) for option, worth in zip(options, spot.given) if worth is not None])


def is_live(spot):
    """Whether some list that reads goes this way; not where there is no spot."""
    if spot is None:
        return False
    node = spot.node
    if spot.free:
        return node.leads_free and node.has_between(spot.on, spot.off)
    return node.leads_bare and spot.on in node.fitting


def is_end(spot):
    """Whether the words up to here are a list that reads."""
    node = spot.node
    return not node.beneath and spot.waiting is None and spot.on in node.fitting and len(spot.placed) >= node.needed


def reading_at(spot):
    """The reading of the words up to here, where they are a list that reads."""
    places, worths = [], spot.placed
    for number, (name, _, times) in enumerate(spot.node.place_parts[:len(worths)]):
        places.append((name, worths[number:] if times in REPEATED else worths[number]))
    return spot.node.way, spot.rows + (row_of(spot),), tuple(places)


def wants(spot):
    """What may be the next word of some list that reads, words and kinds; an option waits at live spots alone."""
    if spot.waiting is not None:
        return [spot.node.options[spot.waiting][KIND]]
    found = _option_wants(spot) if spot.free and spot.node.leads_free else []
    if spot.on in spot.node.fitting:
        beneath = spot.node.beneath
        found += [name for name in beneath if (beneath[name].goes if spot.free else beneath[name].goes_bare)]
    if place_leads_on(spot, ""):
        found.append(spot.node.place_parts[next_place(spot)][1])
    return found


def _option_wants(spot):
    """The words of options that may come, by whole names, and the one that closes them."""
    node, on, off, found = spot.node, spot.on, spot.off, []
    for number, (name, short, form, _, _, _, _) in enumerate(node.options):
        bit = 1 << number
        if _can_be_given(spot, number):
            if node.has_between(on | bit, off):
                found.append(LONG + name)
                if short is not None:
                    found.append(SHORTLY + short)
            if form == "flag" and node.has_between(on, off | bit):
                found.append(OFF + name)
    if node.leads_bare and on in node.fitting:
        found.append(CLOSING)
    return found


def leads_on(spot, text, wanted):
    """Whether some list that reads goes this way, its next word so begun, where these are wanted at a live spot."""
    if spot.waiting is not None:
        return begins(spot.node.options[spot.waiting][KIND], text, spot.node.owns[spot.waiting])
    if spot.free and is_like_option(text):
        if not text.startswith(LONG):
            return _is_begun(behind_letters(spot, text))
        if "=" in text:
            return _is_begun(_behind_name(spot, text))
    elif place_leads_on(spot, text):
        return True
    return any([isinstance(thing, str) and thing.startswith(text) for thing in wanted])


def _behind_name(spot, text):
    """Behind the name of an option with worths, and what is left behind its sign; None where it has all it may have."""
    name, _, rest = text[len(LONG):].partition("=")
    number = spot.node.texts()[0].get(name)
    named = None if number is None else _given_by_name(spot, number)
    return (None, "") if named is None or named.waiting is None else (named, rest)


def _is_begun(behind):
    """Whether a spot behind letters or a name, with what is left of the word, leads on."""
    spot, rest = behind
    if not is_live(spot):
        return False
    return rest == "" or begins(spot.node.options[spot.waiting][KIND], rest, spot.node.owns[spot.waiting])


def place_leads_on(spot, text):
    """Whether some word of the next place leads on, and begins with a text, which is none of options that are open."""
    number = next_place(spot)
    if number is None or not is_live(spot):
        return False
    kind, own = spot.node.place_parts[number][1], spot.node.place_owns[number]
    if spot.free:
        own = [word for word in own if not is_like_option(word)]
    return begins(kind, text, own)


def walked(grammar, words):
    """Where a line is behind as many words as begin one that reads, and how many; at its start where none reads."""
    spot = at_start(grammar)
    for at, word in enumerate(words):
        further = taken(spot, word)
        if not is_live(further):
            return spot, at
        spot = further
    return spot, len(words)


def walked_to_end(grammar, words):
    """Where a line is behind all words, or None where one isn't taken."""
    spot = at_start(grammar)
    for word in words:
        spot = None if spot is None else taken(spot, word)
    return spot


def read_unlike(spot, against):
    """Whether the words up to two Grammars' spots, None where they are refused, are read unlike."""
    reads, does = spot is not None and is_end(spot), against is not None and is_end(against)
    if not reads or not does:
        return reads or does
    return _in_order(reading_at(spot)) != _in_order(reading_at(against))


def _in_order(reading):
    """A reading with each command's options in Python's order."""
    path, rows, places = reading
    return path, [sorted(list(row)) for row in rows], places
