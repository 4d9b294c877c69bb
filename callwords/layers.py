"""Calls: what a reading calls for, each worth by the first layer that gives one, a line, a room, a book, defaults."""

from callwords.books import is_text, row_counts, row_read, row_written
from callwords.commands import DEFAULT, NAME, NEED, REPEATED, SOURCE
from callwords.errors import Lacks, NoBook, NoCall, NoGrammar, NoReading, NoRoom, NoRow, NoText, NotThere, Unread
from callwords.grammars import Grammar
from callwords.lines import cut
from callwords.reading import read
from callwords.readings import is_reading
from callwords.rooms import is_book, is_room, worth_in_book, worth_in_room


def read_book(text):
    """The book that a text writes; refused with NoText, NoRow."""
    if not is_text(text):
        raise NoText(text)
    book = {}
    for at, row in enumerate(text.split("\n")):
        if row_counts(row):
            found = row_read(row)
            if found is None:
                raise NoRow(at)
            book[found[0]] = found[1]
    return book


def book_text(book):
    """The text that writes a book, by Python's order of its keys; refused with NoBook."""
    if not is_book(book):
        raise NoBook(book)
    return "\n".join([row_written(key, book[key]) for key in sorted(list(book))])


class Call:
    """A path, the worths of all its options and places, and whence each option's is. It never changes."""

    def __init__(self, path, worths, places, whence):
        self._path = path
        self._worths = tuple(worths)
        self._places = tuple(places)
        self._whence = {key: whence[key] for key in whence}

    def path(self):
        """The path of the command that is called."""
        return self._path

    def worths(self):
        """The worths of all options, a new list of tuples (path, name, worth)."""
        return list(self._worths)

    def places(self):
        """All places of the command, a new list of tuples (name, worth)."""
        return list(self._places)

    def whence(self):
        """Which layer gave each option's worth, a new dict from tuples (path, name)."""
        return {key: self._whence[key] for key in self._whence}

    def worth(self, path, name):
        """The worth of the option of a path and a name; refused with NotThere."""
        for where, option, worth in self._worths:
            if path == where and name == option:
                return worth
        raise NotThere((path, name))

    def __eq__(self, other):
        return (
            isinstance(other, Call) and self._path == other._path
            and self._worths == other._worths and self._places == other._places
        )


def called(grammar, reading, *, room=None, book=None):
    """The Call of a reading in a room and a book.

    Refused with NoGrammar, NoReading, NoRoom, NoBook, NotThere of the book, then, option by option, Unread, Lacks.
    """
    _look_at(grammar, reading, room, book)
    path, rows, filled = reading
    worths, whence = [], {}
    for at, row in enumerate(rows):
        node, standing = grammar.node_of(path[:at]), {name: worth for name, worth in row}
        for option in node.options:
            layer, worth = _first_layer(grammar, option, _all_layers(node.way, option, standing, room, book))
            worths.append((node.way, option[NAME], worth))
            whence[node.way, option[NAME]] = layer
    return Call(path, worths, all_places(grammar.node_of(path), filled), whence)


def _look_at(grammar, reading, room, book):
    """Refuses what is no Grammar, no reading, no room, no book, and a book of what is no option."""
    if not isinstance(grammar, Grammar):
        raise NoGrammar(grammar)
    if not is_reading(grammar, reading):
        raise NoReading(reading)
    look_at_layers(room, book)
    for key in sorted(list(book or {})):
        if not _is_option(grammar, key):
            raise NotThere(key)


def look_at_layers(room, book):
    """Refuses what is no room, then what is no book; None is none."""
    if room is not None and not is_room(room):
        raise NoRoom(room)
    if book is not None and not is_book(book):
        raise NoBook(book)


def _is_option(grammar, key):
    """Whether a key (path, name) is that of an option of a Grammar."""
    path, name = key
    return grammar.is_there(path) and name in grammar.node_of(path).numbers


def _all_layers(path, option, standing, room, book):
    """What each layer gives an option, in their order, as it stands there: tuples (layer, found)."""
    name, source, found = option[NAME], option[SOURCE], []
    if name in standing:
        found.append(("line", standing[name]))
    if room is not None and source in room:
        found.append(("room", room[source]))
    if book is not None and (path, name) in book:
        found.append(("book", book[path, name]))
    if option[DEFAULT] is not None:
        found.append(("default", option[DEFAULT]))
    return found


def _first_layer(grammar, option, layers):
    """The layer that gives an option its worth, and this worth; refused with Unread, Lacks."""
    if layers:
        return layers[0][0], _worth_in(grammar, option, layers[0])
    if option[NEED]:
        raise Lacks(option[NAME])
    return "none", None


def _worth_in(grammar, option, given):
    """The worth that a layer gives an option; refused with Unread."""
    layer, found = given
    if layer == "room":
        worth = worth_in_room(grammar, option, found)
    elif layer == "book":
        worth = worth_in_book(grammar, option, found)
    else:
        worth = found
    if worth is None:
        raise Unread(layer, option[NAME], found)
    return worth


def all_places(node, filled):
    """All places of a command, with the worths of those that are filled."""
    worths = {name: worth for name, worth in filled}
    return [(name, worths.get(name, () if times in REPEATED else None)) for name, _, times in node.place_parts]


def layers_of(grammar, reading, path, name, *, room=None, book=None):
    """What each layer gives an option, a new list of tuples (layer, worth).

    Refused as called of what is handed in, then with NotThere of (path, name), and Unread of this option alone.
    """
    _look_at(grammar, reading, room, book)
    way, rows, _ = reading
    for at, row in enumerate(rows):
        node, standing = grammar.node_of(way[:at]), {one: worth for one, worth in row}
        for option in node.options:
            if path == node.way and name == option[NAME]:
                layers = _all_layers(path, option, standing, room, book)
                return [(given[0], _worth_in(grammar, option, given)) for given in layers]
    raise NotThere((path, name))


def differing(one, other):
    """Where two Calls differ, a new list of tuples (path, name, worth, other worth); refused with NoCall."""
    for call in (one, other):
        if not isinstance(call, Call):
            raise NoCall(call)
    ours, theirs = _all_worths(one), _all_worths(other)
    found = []
    if one.path() != other.path():
        found.append(((), "", one.path(), other.path()))
    keys = list(ours) + [key for key in theirs if key not in ours]
    for path, name in keys:
        worth, against = ours.get((path, name)), theirs.get((path, name))
        if worth != against:
            found.append((path, name, worth, against))
    return found


def _all_worths(call):
    """The worths of a Call's options, then places, a dict from tuples (path, name)."""
    worths = {(path, name): worth for path, name, worth in call.worths()}
    for name, worth in call.places():
        worths[call.path(), name] = worth
    return worths


def call_line(grammar, line, *, room=None, book=None):
    """The Call of a line; refused with NoGrammar, as cut, with NoRoom, NoBook, Wrong, then as called."""
    if not isinstance(grammar, Grammar):
        raise NoGrammar(grammar)
    words = cut(line)
    look_at_layers(room, book)
    return called(grammar, read(grammar, words), room=room, book=book)
