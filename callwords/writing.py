"""Lines for calls: the shortest words of a reading, the shortest ones that are safe, and the plain ones."""

from callwords.commands import DEFAULT, FORM, NAME, NEED, REPEATED, SOURCE
from callwords.errors import NoCall, NoGrammar, NoList, NoReading, NoTruth, NoWay
from callwords.grammars import Grammar
from callwords.kinds import is_name
from callwords.layers import Call, all_places
from callwords.lines import MOST_WORDS, are_words
from callwords.reading import read, reading_of
from callwords.readings import is_reading, stands_with
from callwords.shortening import length, row_words, worth_word
from callwords.steps import CLOSING, is_like_option


def shortest(grammar, reading):
    """A shortest list of words that reads to just a reading; refused with NoGrammar, NoReading."""
    _look_at_reading(grammar, reading)
    return shortest_of(grammar, reading)


def shortest_of(grammar, reading):
    """A shortest list of words that reads to what is known to be a reading."""
    path, rows, places = reading
    node = grammar.node_of(())
    words = row_words(node, rows[0])
    for name, row in zip(path, rows[1:]):
        beneath = node.beneath[name]
        words.append(node.shortest()[2][beneath.way])
        words += row_words(beneath, row)
        node = beneath
    return words + _place_words(node, places)


def _look_at_reading(grammar, reading):
    """Refuses what is no Grammar, then what is no reading."""
    if not isinstance(grammar, Grammar):
        raise NoGrammar(grammar)
    if not is_reading(grammar, reading):
        raise NoReading(reading)


def _place_words(node, places):
    """The words of places, behind the one that closes options where one of them would be taken as one of these."""
    words = []
    for (_, _, times), (_, worth) in zip(node.place_parts, places):
        words += [worth_word(one) for one in (worth if times in REPEATED else (worth,))]
    return [CLOSING] + words if any([is_like_option(word) for word in words]) else words


def plain(grammar, reading):
    """The plain list of words of a reading; refused with NoGrammar, NoReading."""
    _look_at_reading(grammar, reading)
    return _plain_of(grammar, reading)


def _plain_of(grammar, reading):
    """The plain list of words of what is known to be a reading."""
    path, rows, places = reading
    node = grammar.node_of(())
    words = _plain_row(node, rows[0])
    for name, row in zip(path, rows[1:]):
        node = node.beneath[name]
        words.append(name)
        words += _plain_row(node, row)
    return words + _place_words(node, places)


def _plain_row(node, row):
    """The plain words of a command's options that stand."""
    words = []
    for name, worth in row:
        form = node.options[node.numbers[name]][FORM]
        if form == "flag":
            words.append("--" + name if worth == 1 else "--no-" + name)
        elif form == "count":
            words += ["--" + name] * worth
        else:
            worths = worth if form == "many" else (worth,)
            words += ["--" + name + "=" + worth_word(one) for one in worths]
    return words


def plain_words(grammar, words):
    """The plain list that reads to the same as the words; refused as read."""
    return _plain_of(grammar, read(grammar, words))


def is_safe(grammar, call, thing, *, rooms=(), books=False):
    """Whether the thing is a list of words that is called as a Call in every room and book of a sort.

    Refused with NoGrammar, NoCall, NoList of the rooms' names, NoTruth.
    """
    _look_at_sort(grammar, call, rooms, books)
    reading = reading_of(grammar, thing) if are_words(thing) else None
    if reading is None:
        return False
    path, rows, places = reading
    nodes = _nodes_of(grammar, call)
    if path != call.path() or nodes is None or all_places(nodes[-1], places) != call.places():
        return False
    worths = _all_worths(call)
    return all([_is_safe_row(node, worths, row, rooms, books) for node, row in zip(nodes, rows)])


def _look_at_sort(grammar, call, rooms, books):
    """Refuses what is no Grammar, no Call, no list of names, no truth."""
    if not isinstance(grammar, Grammar):
        raise NoGrammar(grammar)
    if not isinstance(call, Call):
        raise NoCall(call)
    if not isinstance(rooms, (list, tuple)) or not all([is_name(name) for name in rooms]):
        raise NoList(rooms)
    if not isinstance(books, bool):
        raise NoTruth(books)


def _nodes_of(grammar, call):
    """The Nodes from the root to a Call's path, or None where it has other options than these have."""
    path = call.path()
    if not grammar.is_there(path):
        return None
    nodes = [grammar.node_of(path[:at]) for at in range(len(path) + 1)]
    keys = [(node.way, name) for node in nodes for name in node.numbers]
    return nodes if keys == [(where, name) for where, name, _ in call.worths()] else None


def _all_worths(call):
    """The worths of a Call's options, a dict from tuples (path, name)."""
    return {(where, name): worth for where, name, worth in call.worths()}


def _filled(call):
    """The places of a Call that have any worth, tuples (name, worth) as in a reading."""
    return tuple([(name, worth) for name, worth in call.places() if worth is not None and worth != ()])


def _may_lack(option, worth, rooms, books):
    """Whether an option that doesn't stand has the worth all the same, in every room and book of a sort."""
    at_risk = books or option[SOURCE] in rooms
    return not at_risk and not option[NEED] and option[DEFAULT] == worth


def _is_safe_row(node, worths, row, rooms, books):
    """Whether what stands at a command, and what doesn't, comes to the Call's worths."""
    standing = {name: worth for name, worth in row}
    for option in node.options:
        name = option[NAME]
        worth = worths[node.way, name]
        if name in standing:
            if standing[name] != worth:
                return False
        elif not _may_lack(option, worth, rooms, books):
            return False
    return True


def safe_line(grammar, call, *, rooms=(), books=False):
    """A shortest list of words that is safe for a Call; refused as is_safe, and with NoWay where there is none."""
    _look_at_sort(grammar, call, rooms, books)
    nodes, worths = _nodes_of(grammar, call), _all_worths(call)
    if nodes is None:
        raise NoWay(call)
    rows = [_safe_row(node, worths, rooms, books) for node in nodes]
    # A Call of another Grammar may have other places, or lack a place's worth in another way, None or ().
    reading = (call.path(), tuple(rows), _filled(call))
    if None in rows or not is_reading(grammar, reading) or all_places(nodes[-1], reading[2]) != call.places():
        raise NoWay(call)
    words = shortest_of(grammar, reading)
    if len(words) > MOST_WORDS:
        raise NoWay(call)
    return words


def _safe_row(node, worths, rooms, books):
    """The safe row of a command's options whose words are the shortest, or None where none is safe."""
    must, barred, off = 0, 0, {}
    for number, option in enumerate(node.options):
        worth = worths[node.way, option[NAME]]
        lacks = _may_lack(option, worth, rooms, books)
        if option[FORM] == "flag" and worth == 0:
            barred = barred | 1 << number
            off[number] = not lacks
        elif not stands_with(option, node.owns[number], worth):
            if not lacks:
                return None
            barred = barred | 1 << number
        elif not lacks:
            must = must | 1 << number
    rows = []
    for bits in _least_sets(node, must, barred):
        row = tuple([
            (name, worths[node.way, name]) for name, number in node.numbers.items()
            if bits >> number & 1 or off.get(number, False)
        ])
        rows.append((length(row_words(node, row)), len(rows), row))
    return min(rows)[2] if rows else None


def _least_sets(node, must, barred):
    """The sets with all of must and none of the barred ones that have no such set within them.

    One within another has shorter words: those of what stands besides can be left out.
    """
    fitting = [bits for bits in node.fitting if bits & must == must and bits & barred == 0]
    return [bits for bits in fitting if not any([bits & less == less and bits != less for less in fitting])]
