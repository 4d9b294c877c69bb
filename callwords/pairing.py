"""Two Grammars' spots at once: the words that may part them, and how many words lead a spot to an end."""

from callwords.commands import KIND, NEEDED
from callwords.kinds import words_of
from callwords.steps import CLOSING, LONG, OFF, SHORTLY, is_like_option, next_place
from callwords.worthing import sorted_words


def pair_words(spot, against):
    """Words of which at least one of two spots takes any, of each sort one, however they are taken; None is no spot."""
    found, node, beside = [], _open_node(spot), _open_node(against)
    if node is not None or beside is not None:
        found += _long_words(node, beside)
        found += [SHORTLY + letter for letter in _letters(node) + _letters(beside)]
        found.append(CLOSING)
    found += _of_each_sort(_beneath(spot), _beneath(against))
    kind, own = _bare_kind(spot)
    other, others = _bare_kind(against)
    found += list(sorted_words(kind, own, other, others).values())
    return list({word: True for word in found})


def _open_node(spot):
    """The Node of a spot that takes words of options as such, else None."""
    return spot.node if spot is not None and spot.free and spot.waiting is None else None


def _long_words(node, other):
    """Words of options by their names, of each pair of options one."""
    found = []
    names, beside = _texts(node, 0), _texts(other, 0)
    for text in _of_each_sort(names, beside):
        found.append(LONG + text)
        kind, own = _kind(node, names.get(text))
        against, others = _kind(other, beside.get(text))
        worths = sorted_words(kind, own, against, others)
        found += [LONG + text + "=" + worth for worth in worths.values()]
    return found + [OFF + text for text in _of_each_sort(_texts(node, 1), _texts(other, 1))]


def _texts(node, which):
    """The beginnings that read of options or flags, none where there is no Node."""
    return {} if node is None else node.texts()[which]


def _of_each_sort(texts, beside):
    """Of each pair of things to which texts read one text, of two dicts from texts."""
    found = {}
    for text in sorted(list(texts) + [text for text in beside if text not in texts]):
        sort = (texts.get(text), beside.get(text))
        found[sort] = found.get(sort, text)
    return list(found.values())


def _kind(node, number):
    """The kind of an option, and its own words; None and none where there is no option."""
    return (None, ()) if number is None else (node.options[number][KIND], node.owns[number])


def _letters(node):
    """The letters of a Node's options."""
    return [] if node is None else list(node.letters)


def _beneath(spot):
    """A dict from the beginnings that read of commands beneath a spot to their names."""
    if spot is None or spot.waiting is not None:
        return {}
    commands = spot.node.texts()[2]
    return {text: commands[text].way[-1] for text in commands}


def _bare_kind(spot):
    """The kind of which a word alone is a worth at a spot, and its own words; None and none where there is none."""
    if spot is None:
        return None, ()
    if spot.waiting is not None:
        return _kind(spot.node, spot.waiting)
    number = next_place(spot)
    return (None, ()) if number is None else (spot.node.place_parts[number][1], spot.node.place_owns[number])


def words_left(spot):
    """The fewest words that lead a spot to an end, None where none do, or there is no spot."""
    if spot is None:
        return None
    fewest = _fewest_more(spot.node, spot.on, spot.off, spot.free)
    rest = _fewest_beneath(spot.node, spot.free, len(spot.placed))
    if fewest is None or rest is None:
        return None
    return fewest + rest + (0 if spot.waiting is None else 1)


def _fewest_more(node, on, off, free):
    """How many options more make a set, the fewest, None where none do."""
    if not free:
        return 0 if on in node.fitting else None
    more = [bits - on for bits in node.fitting if bits & on == on and bits & off == 0]
    return min([sum([bits >> number & 1 for number in range(len(node.options))]) for bits in more], default=None)


def _fewest_beneath(node, free, filled):
    """The fewest words for what stands behind the options of a command, of whose places so many words are given."""
    if not node.beneath:
        lacking = [
            (place[1], own) for place, own in zip(node.place_parts[filled:], node.place_owns[filled:])
            if place[2] in NEEDED
        ]
        if not node.leads_free:
            return None
        closing = free and any([_are_all_like_options(words_of(kind, own)) for kind, own in lacking])
        return len(lacking) + (1 if closing else 0)
    found = [_fewest_from(below, free) for below in node.beneath.values()]
    return min([many + 1 for many in found if many is not None], default=None)


def _fewest_from(node, free):
    """The fewest words that lead from a command that has just come to hand to an end, None where none do."""
    fewest, rest = _fewest_more(node, 0, 0, free), _fewest_beneath(node, free, 0)
    return None if fewest is None or rest is None else fewest + rest


def _are_all_like_options(words):
    """Whether known words are all like words of options; no known words leave free ones, that needn't be."""
    return len(words) > 0 and all([is_like_option(word) for word in words])
