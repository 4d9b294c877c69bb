"""A line word by word: where it is behind its words, what a further word does there, and which ones may come."""

from callwords.commands import COMMANDS, FORM, KIND, MOST_REST, NAME, NEEDED, OPTIONS, PLACES, REPEATED, SHORT
from callwords.commands import WITH_KIND
from callwords.grammars import command_words, flag_words, goes_on, has_between, option_words
from callwords.kinds import LETTERS, MOST_COUNT, MOST_MANY, begins_worth, worth_of

CLOSING = "--"
LONG = "--"
OFF = "--no-"
SHORTLY = "-"
OPTION_BEGINNINGS = ("", "-")


class Spot:
    """Where a line is behind some words. It never changes.

    way is the path of the command at hand, rows what was given at those above; given holds for each of its options
    what it was given, or None; placed are the worths of its places; free tells whether options are open; waiting is
    the number of the option that waits, or None.
    """

    def __init__(self, way, rows, given, placed, free, waiting):
        self.way = way
        self.rows = rows
        self.given = given
        self.placed = placed
        self.free = free
        self.waiting = waiting


def at_start(grammar):
    """Where a line is ahead of its first word."""
    return Spot((), (), nothing_given(grammar, ()), (), True, None)


def nothing_given(grammar, path):
    """What the options of a command were given when it comes to hand."""
    return tuple([None for _ in grammar.command(path)[OPTIONS]])


def is_like_option(text):
    """Whether a word that begins so is one of options, where they are open."""
    return text.startswith(LONG) or (text.startswith(SHORTLY) and len(text) > 1 and text[1] in LETTERS)


def taken(grammar, spot, word):
    """Where a line is behind a further word, or None where the word isn't taken."""
    if spot.waiting is not None:
        return _with_worth(grammar, spot, word)
    if spot.free and is_like_option(word):
        if word == CLOSING:
            return _closed(spot)
        return _with_long(grammar, spot, word) if word.startswith(LONG) else _with_letters(grammar, spot, word)
    if grammar.command(spot.way)[COMMANDS]:
        return _with_command(grammar, spot, word)
    return _with_place(grammar, spot, word)


def _options(grammar, spot):
    """The options of the command at hand."""
    return grammar.command(spot.way)[OPTIONS]


def _closed(spot):
    """Options are closed, for all that follows."""
    return Spot(spot.way, spot.rows, spot.given, spot.placed, False, None)


def _given_more(grammar, spot, number, worth):
    """An option is given a worth more, or None where it has all that it may have."""
    form, had = _options(grammar, spot)[number][FORM], spot.given[number]
    if form == "count":
        more = (had or 0) + 1 if had != MOST_COUNT else None
    elif form == "many":
        more = (had or ()) + (worth,) if len(had or ()) < MOST_MANY else None
    else:
        more = worth if had is None else None
    if more is None:
        return None
    given = spot.given[:number] + (more,) + spot.given[number + 1:]
    return Spot(spot.way, spot.rows, given, spot.placed, spot.free, None)


def _given_by_name(grammar, spot, number):
    """An option is named: a flag or a count is given, any other one waits; None where it has all it may have."""
    if _options(grammar, spot)[number][FORM] not in WITH_KIND:
        return _given_more(grammar, spot, number, 1)
    if _given_more(grammar, spot, number, "") is None:
        return None
    return Spot(spot.way, spot.rows, spot.given, spot.placed, spot.free, number)


def _with_worth(grammar, spot, word):
    """The option that waits takes a word, or None."""
    kind = _options(grammar, spot)[spot.waiting][KIND]
    worth = worth_of(kind, word, own=grammar.own_words(kind))
    return None if worth is None else _given_more(grammar, spot, spot.waiting, worth)


def _with_long(grammar, spot, word):
    """Behind a word of one option by its name, or None."""
    if word.startswith(OFF):
        name = flag_words(grammar, spot.way).get(word[len(OFF):])
        return None if name is None else _given_more(grammar, spot, _number_of(grammar, spot, name), 0)
    text, sign, rest = word[len(LONG):].partition("=")
    named = _named(grammar, spot, text)
    if named is None or sign == "":
        return named
    return None if named.waiting is None else _with_worth(grammar, named, rest)


def _named(grammar, spot, text):
    """Behind the name, or a beginning that reads, of an option, or None."""
    name = option_words(grammar, spot.way).get(text)
    return None if name is None else _given_by_name(grammar, spot, _number_of(grammar, spot, name))


def _number_of(grammar, spot, name):
    """The number of the option of a name."""
    return [option[NAME] for option in _options(grammar, spot)].index(name)


def behind_letters(grammar, spot, word):
    """Behind letter by letter of a word, up to an option that waits, and what is left then; None where one fails."""
    letters = [option[SHORT] for option in _options(grammar, spot)]
    for at, letter in enumerate(word[1:]):
        if letter not in letters:
            return None, ""
        spot = _given_by_name(grammar, spot, letters.index(letter))
        if spot is None or spot.waiting is not None:
            return spot, word[at + 2:]
    return spot, ""


def _with_letters(grammar, spot, word):
    """Behind a word of letters, or None."""
    behind, rest = behind_letters(grammar, spot, word)
    return behind if behind is None or rest == "" else _with_worth(grammar, behind, rest)


def _with_command(grammar, spot, word):
    """Behind the name, or a beginning that reads, of a command beneath, or None."""
    name = command_words(grammar, spot.way).get(word)
    return None if name is None else _beneath(grammar, spot, name)


def _beneath(grammar, spot, name):
    """A command beneath is at hand, or None where the options of the one above can't be left so."""
    if not _is_set(grammar, spot):
        return None
    way = spot.way + (name,)
    return Spot(way, spot.rows + (row_of(grammar, spot),), nothing_given(grammar, way), (), spot.free, None)


def next_place(grammar, spot):
    """The place that the next word fills, or None."""
    places, many = grammar.command(spot.way)[PLACES], len(spot.placed)
    if many < len(places):
        return places[many]
    # All words from the last place's number on are its own, where it is one for many.
    if places and places[-1][2] in REPEATED and many < len(places) - 1 + MOST_REST:
        return places[-1]
    return None


def _with_place(grammar, spot, word):
    """Behind the word of a place, or None."""
    place = next_place(grammar, spot)
    if place is None:
        return None
    worth = worth_of(place[1], word, own=grammar.own_words(place[1]))
    return None if worth is None else _with_placed(spot, worth)


def _with_placed(spot, worth):
    """A place has a further worth."""
    return Spot(spot.way, spot.rows, spot.given, spot.placed + (worth,), spot.free, None)


def row_of(grammar, spot):
    """The options of the command at hand that stand, tuples (name, worth)."""
    options = _options(grammar, spot)
    return tuple([(option[NAME], worth) for option, worth in zip(options, spot.given) if worth is not None])


def standing_at(grammar, spot):
    """The names of options that stand, the one that waits too, and of flags that are off."""
    on, off = [], []
    for number, option in enumerate(_options(grammar, spot)):
        if option[FORM] == "flag" and spot.given[number] == 0:
            off.append(option[NAME])
        elif spot.given[number] is not None or spot.waiting == number:
            on.append(option[NAME])
    return tuple(on), tuple(off)


def _is_set(grammar, spot):
    """Whether just what stands may stand together, and no option waits."""
    on, _ = standing_at(grammar, spot)
    return spot.waiting is None and on in grammar.sets_at(spot.way)


def is_live(grammar, spot):
    """Whether some list that reads goes this way; not where there is no spot."""
    if spot is None:
        return False
    on, off = standing_at(grammar, spot)
    found = grammar.sets_at(spot.way)
    if not (has_between(found, on, off) if spot.free else on in found):
        return False
    beneath = grammar.command(spot.way)[COMMANDS]
    if beneath:
        return any([goes_on(grammar, spot.way + (below[NAME],), not spot.free) for below in beneath])
    return all([grammar.has_worth(kind) for _, kind, _ in lacking_places(grammar, spot)])


def lacking_places(grammar, spot):
    """The places that need a worth and have none."""
    places = grammar.command(spot.way)[PLACES][len(spot.placed):]
    return [place for place in places if place[2] in NEEDED]


def is_end(grammar, spot):
    """Whether the words up to here are a list that reads."""
    if not _is_set(grammar, spot) or grammar.command(spot.way)[COMMANDS]:
        return False
    return len(lacking_places(grammar, spot)) == 0


def reading_at(grammar, spot):
    """The reading of the words up to here, where they are a list that reads."""
    places, worths = [], spot.placed
    for number, (name, _, times) in enumerate(grammar.command(spot.way)[PLACES][:len(worths)]):
        places.append((name, worths[number:] if times in REPEATED else worths[number]))
    return spot.way, spot.rows + (row_of(grammar, spot),), tuple(places)


def wants(grammar, spot):
    """What may be the next word of some list that reads, words and kinds; an option waits at live spots alone."""
    if spot.waiting is not None:
        return [_options(grammar, spot)[spot.waiting][KIND]]
    found = _option_wants(grammar, spot) if spot.free else []
    found += _command_wants(grammar, spot)
    if _place_leads_on(grammar, spot, ""):
        found.append(next_place(grammar, spot)[1])
    return found


def _option_wants(grammar, spot):
    """The words of options that may come, by whole names, and the one that closes them."""
    found = []
    for number, (name, short, form, _, _, _, _) in enumerate(_options(grammar, spot)):
        if is_live(grammar, _given_by_name(grammar, spot, number)):
            found.append(LONG + name)
            if short is not None:
                found.append(SHORTLY + short)
        if form == "flag" and is_live(grammar, _given_more(grammar, spot, number, 0)):
            found.append(OFF + name)
    if is_live(grammar, _closed(spot)):
        found.append(CLOSING)
    return found


def _command_wants(grammar, spot):
    """The names of commands beneath that may come."""
    names = [below[NAME] for below in grammar.command(spot.way)[COMMANDS]]
    return [name for name in names if is_live(grammar, _beneath(grammar, spot, name))]


def leads_on(grammar, spot, text):
    """Whether some list that reads goes this way, its next word so begun; an option waits at live spots alone."""
    if spot.waiting is not None:
        return _begins(grammar, _options(grammar, spot)[spot.waiting][KIND], text)
    if spot.free and is_like_option(text):
        return _option_leads_on(grammar, spot, text)
    if spot.free and text in OPTION_BEGINNINGS and len(_option_wants(grammar, spot)) > 0:
        return True
    if any([name.startswith(text) for name in _command_wants(grammar, spot)]):
        return True
    return _place_leads_on(grammar, spot, text)


def _begins(grammar, kind, text):
    """Whether the word of some worth of a kind begins with a text."""
    return begins_worth(kind, text, own=grammar.own_words(kind))


def _option_leads_on(grammar, spot, text):
    """Whether some word of options leads on, and begins with a text that tells that it is one."""
    if not text.startswith(LONG):
        return _is_begun(grammar, behind_letters(grammar, spot, text))
    name, sign, rest = text[len(LONG):].partition("=")
    if sign == "":
        return any([word.startswith(text) for word in _option_wants(grammar, spot)])
    named = _named(grammar, spot, name)
    if named is None or named.waiting is None:
        return False
    return is_live(grammar, named) and _begins(grammar, _options(grammar, named)[named.waiting][KIND], rest)


def _is_begun(grammar, behind):
    """Whether a spot behind letters, with what is left of the word, leads on."""
    spot, rest = behind
    if not is_live(grammar, spot):
        return False
    return rest == "" or _begins(grammar, _options(grammar, spot)[spot.waiting][KIND], rest)


def _place_leads_on(grammar, spot, text):
    """Whether some word of the next place leads on, and begins with a text, which needn't be whole."""
    place = next_place(grammar, spot)
    if place is None or not is_live(grammar, _with_placed(spot, "")):
        return False
    own = grammar.own_words(place[1])
    if spot.free:
        own = [word for word in own if not is_like_option(word)]
    return begins_worth(place[1], text, own=own)


def walked(grammar, words):
    """Where a line is behind as many words as begin one that reads, and how many; at its start where none reads."""
    spot = at_start(grammar)
    for at, word in enumerate(words):
        further = taken(grammar, spot, word)
        if not is_live(grammar, further):
            return spot, at
        spot = further
    return spot, len(words)


def walked_to_end(grammar, words):
    """Where a line is behind all words, or None where one isn't taken."""
    spot = at_start(grammar)
    for word in words:
        spot = None if spot is None else taken(grammar, spot, word)
    return spot


def read_unlike(one, spot, other, against):
    """Whether two Grammars read unlike the words up to a spot each, None where they are refused."""
    reads, does = spot is not None and is_end(one, spot), against is not None and is_end(other, against)
    if not reads or not does:
        return reads or does
    return _in_order(reading_at(one, spot)) != _in_order(reading_at(other, against))


def _in_order(reading):
    """A reading with each command's options in Python's order."""
    path, rows, places = reading
    return path, [sorted(list(row)) for row in rows], places
