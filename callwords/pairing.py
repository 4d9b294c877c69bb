"""Two Grammars' spots at once: the words that may part them, and how many words lead a spot to an end."""

from callwords.commands import COMMANDS, KIND, NAME, NEEDED, OPTIONS, PLACES, SHORT
from callwords.grammars import command_words, flag_words, option_words
from callwords.kinds import known_words
from callwords.steps import CLOSING, LONG, OFF, SHORTLY, is_like_option, lacking_places, next_place, standing_at
from callwords.worthing import sorted_words


def pair_words(one, spot, other, against):
    """Words of which at least one of two spots takes any, of each sort one, however they are taken; None is no spot."""
    found = []
    if _takes_options(spot) or _takes_options(against):
        found += _long_words(one, _open(spot), other, _open(against))
        found += [SHORTLY + letter for letter in _letters(one, _open(spot)) + _letters(other, _open(against))]
        found.append(CLOSING)
    found += _of_each_sort(_beneath(one, spot), _beneath(other, against))
    kind, beside = _bare_kind(one, spot), _bare_kind(other, against)
    found += list(sorted_words(one, kind, other, beside).values())
    return list({word: True for word in found})


def _takes_options(spot):
    """Whether a spot takes words of options as such."""
    return spot is not None and spot.free and spot.waiting is None


def _open(spot):
    """A spot, or None where it takes no words of options."""
    return spot if _takes_options(spot) else None


def _long_words(one, spot, other, against):
    """Words of options by their names, of each pair of options one."""
    found = []
    names, beside = _names(option_words, one, spot), _names(option_words, other, against)
    for text in _of_each_sort(names, beside):
        found.append(LONG + text)
        kind, kind_beside = _kind(one, spot, names.get(text)), _kind(other, against, beside.get(text))
        worths = sorted_words(one, kind, other, kind_beside)
        found += [LONG + text + "=" + worth for worth in worths.values()]
    flags = _of_each_sort(_names(flag_words, one, spot), _names(flag_words, other, against))
    return found + [OFF + text for text in flags]


def _names(words, grammar, spot):
    """The beginnings that read at a spot, none at no spot."""
    return {} if spot is None else words(grammar, spot.way)


def _of_each_sort(words, beside):
    """Of each pair of names to which texts read one text, of two dicts from texts to names."""
    found = {}
    for text in sorted(list(words) + [text for text in beside if text not in words]):
        sort = (words.get(text), beside.get(text))
        found[sort] = found.get(sort, text)
    return list(found.values())


def _kind(grammar, spot, name):
    """The kind of the option of a name at a spot, None of no name."""
    return None if name is None else grammar.option(spot.way, name)[KIND]


def _letters(grammar, spot):
    """The letters of a spot's options."""
    if spot is None:
        return []
    return [option[SHORT] for option in grammar.command(spot.way)[OPTIONS] if option[SHORT] is not None]


def _beneath(grammar, spot):
    """The beginnings that read of commands beneath a spot."""
    return {} if spot is None or spot.waiting is not None else command_words(grammar, spot.way)


def _bare_kind(grammar, spot):
    """The kind of which a word alone is a worth at a spot, or None."""
    if spot is None:
        return None
    if spot.waiting is not None:
        return grammar.command(spot.way)[OPTIONS][spot.waiting][KIND]
    place = next_place(grammar, spot)
    return None if place is None else place[1]


def words_left(grammar, spot):
    """The fewest words that lead a spot to an end, None where none do, or there is no spot."""
    if spot is None:
        return None
    on, off = standing_at(grammar, spot)
    fewest = _fewest_more(grammar.sets_at(spot.way), on, off, spot.free)
    rest = _fewest_beneath(grammar, spot.way, spot.free, lacking_places(grammar, spot))
    if fewest is None or rest is None:
        return None
    return fewest + rest + (0 if spot.waiting is None else 1)


def _fewest_more(found, on, off, free):
    """How many options more make a set, the fewest, None where none do."""
    if not free:
        return 0 if on in found else None
    fits = [
        len(names) - len(on) for names in found
        if all([name in names for name in on]) and not any([name in names for name in off])
    ]
    return min(fits, default=None)


def _fewest_beneath(grammar, path, free, lacking):
    """The fewest words for what stands behind the options of a command, None where none lead on."""
    beneath = grammar.command(path)[COMMANDS]
    if not beneath:
        if not all([grammar.has_worth(kind) for _, kind, _ in lacking]):
            return None
        closing = free and any([_is_all_like_options(grammar, kind) for _, kind, _ in lacking])
        return len(lacking) + (1 if closing else 0)
    found = [_fewest_from(grammar, path + (below[NAME],), free) for below in beneath]
    return min([many + 1 for many in found if many is not None], default=None)


def _fewest_from(grammar, path, free):
    """The fewest words that lead from a command that has just come to hand to an end, None where none do."""
    fewest = _fewest_more(grammar.sets_at(path), (), (), free)
    needed = [place for place in grammar.command(path)[PLACES] if place[2] in NEEDED]
    rest = _fewest_beneath(grammar, path, free, needed)
    return None if fewest is None or rest is None else fewest + rest


def _is_all_like_options(grammar, kind):
    """Whether each worth's word of a kind is like one of options."""
    words = known_words(kind, own=grammar.own_words(kind))
    return len(words) > 0 and all([is_like_option(word) for word in words])
