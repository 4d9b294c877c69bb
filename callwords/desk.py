"""A desk: it is told rows, keeps a grammar's editions, a room and a book, and answers each row with a text."""

from callwords.completing import going_on, meant
from callwords.editions import Editions, changed
from callwords.errors import NoGrammar, NoLine
from callwords.helping import page, usage, usage_text
from callwords.kinds import are_signs, is_name, number_in, number_word
from callwords.layers import call_line, read_book
from callwords.lines import cut, is_line, joined
from callwords.sayings import call_text, change_of, path_of, with_words
from callwords.texts import grammar_text, read_grammar
from callwords.writing import plain_words, safe_line

DONE = "ok"
ROWS = ";"
OF_TEXT = ("grammar", "change", "book")
OF_LINE = ("read", "call", "write", "more", "meant", "led")
WITHOUT_GRAMMAR = ("grammar", "room", "book")


class Desk:
    """It has no grammar at first, and an empty room and book; what it is told changes it, asking doesn't."""

    def __init__(self):
        self._editions = None
        self._room = {}
        self._book = {}

    def say(self, row):
        """The answer to a row, a text; refused with NoLine, NoGrammar of None, and as the stages refuse."""
        told = _row_of(row)
        if told is None:
            raise NoLine(row)
        word = told[0]
        if self._editions is None and word not in WITHOUT_GRAMMAR:
            raise NoGrammar(None)
        if word == "change":
            return self._change(row, told[1])
        if word in OF_TEXT:
            return self._set_text(word, told[1])
        if word == "room":
            return self._set_room(told[1], told[2])
        if word in OF_LINE:
            return self._ask_line(word, told[1])
        return self._ask_path(word, told)

    def _last(self):
        """The Grammar of the last edition."""
        return self._editions.grammar(len(self._editions) - 1)

    def _set_text(self, word, text):
        """A grammar, or a row of the book is told."""
        if word == "grammar":
            self._editions = Editions(read_grammar(text.replace(ROWS, "\n")))
        else:
            self._book = _joined_books(self._book, read_book(text))
        return DONE

    def _change(self, row, text):
        """Another edition comes, by changes that a row's text writes; they are read and made one by one."""
        grammar, changes = self._last(), []
        for part in text.split(ROWS):
            change = change_of(grammar, part)
            if change is None:
                raise NoLine(row)
            grammar = changed(grammar, [change])
            changes.append(change)
        self._editions.add(changes)
        return DONE

    def _set_room(self, name, line):
        """The room has a line for a name, or none any more."""
        room = {one: self._room[one] for one in self._room if one != name}
        if line is not None:
            room[name] = line
        self._room = room
        return DONE

    def _ask_line(self, word, line):
        """What a line comes to."""
        grammar = self._last()
        if word == "call":
            return call_text(grammar, self._called(line))
        if word == "write":
            return joined(safe_line(grammar, self._called(line)))
        if word == "more":
            return joined([known for known, _ in going_on(grammar, line)])
        words = cut(line)
        if word == "read":
            return joined(plain_words(grammar, words))
        if word == "meant":
            at, found = meant(grammar, words)
            return with_words(number_word(at), found)
        last = len(self._editions) - 1
        how, found = self._editions.led(words, since=last - 1, to=last)
        return with_words(how, found)

    def _called(self, line):
        """The Call of a line in the room and the book."""
        return call_line(self._last(), line, room=self._room, book=self._book)

    def _ask_path(self, word, told):
        """The help or the usage of a path, or the grammar's text."""
        grammar = self._last()
        if word == "help":
            return ROWS.join(page(grammar, told[2], width=told[1]))
        if word == "usage":
            return ROWS.join([usage_text(grammar, told[1], row) for row in usage(grammar, told[1])])
        return grammar_text(grammar).replace("\n", ROWS)


def _joined_books(book, further):
    """A book with what another one has, too, in the place of what it has itself."""
    found = {key: book[key] for key in book}
    for key in further:
        found[key] = further[key]
    return found


def _row_of(row):
    """What a row tells, a tuple that begins with its word, or None where it is none of the forms."""
    if not isinstance(row, str) or not are_signs(row):
        return None
    word, blank, rest = row.partition(" ")
    if word in OF_TEXT:
        return word, rest
    if word in OF_LINE:
        return (word, rest) if is_line(rest) else None
    if word == "room":
        name, parting, line = rest.partition(" ")
        return (word, name, line if parting else None) if is_name(name) and is_line(line) else None
    if word == "usage":
        path = path_of(rest)
        return None if path is None else (word, path)
    if word == "help":
        return _help_of(rest)
    return (word,) if word == "text" and blank == "" else None


def _help_of(text):
    """What a row of help tells, or None."""
    width, _, rest = text.partition(" ")
    path = path_of(rest)
    return None if number_in(width) is None or path is None else ("help", number_in(width), path)
