"""Lines: how they are cut into words, and how words are quoted so that they are cut to the same."""

from callwords.errors import BadSign, NoLine, NoList, NoState, NoWord, TooMany
from callwords.kinds import MOST_SIGNS, are_signs, is_word

MOST_LINE = 2000
MOST_WORDS = 40
QUOTES = ("'", '"')
PARTING = " \n"
NEEDING = " '\"\\"
NEEDING_WITHIN = "\"\\"


def is_line(thing):
    """Whether the thing is a text of at most 2,000 signs and line feeds."""
    return isinstance(thing, str) and len(thing) <= MOST_LINE and are_signs(thing.replace("\n", ""))


def are_words(thing):
    """Whether the thing is a list of at most forty words."""
    if not isinstance(thing, (list, tuple)) or len(thing) > MOST_WORDS:
        return False
    return all([is_word(word) for word in thing])


def cut(line):
    """The words to which a line is cut; refused with NoLine, BadSign, TooMany."""
    words = _cut_plainly(line)
    if words is not None:
        _refuse_too_many(len(words))
        return words
    words, begun, quote, opened = _scanned(line)
    if quote != "":
        raise BadSign(opened)
    if begun is not None:
        words.append(begun)
    _refuse_too_many(len(words))
    return words


def _cut_plainly(line):
    """The words of a line without quotes and escapes, in which no word is too long; None of any other thing."""
    if not is_line(line) or "'" in line or '"' in line or "\\" in line:
        return None
    words = line.split()
    return words if max([len(word) for word in words], default=0) <= MOST_SIGNS else None


def state_of(line):
    """The state (words, begun, quote) of a line that breaks off; refused with NoLine, BadSign, TooMany."""
    words, begun, quote, _ = _scanned(line)
    _refuse_too_many(len(words) if begun is None else len(words) + 1)
    return words, begun, quote


def _scanned(line):
    """The whole words, the word begun or None, the open quote, and where it was opened."""
    if not is_line(line):
        raise NoLine(line)
    words, begun, quote, opened, escaping = [], None, "", 0, False
    for at, sign in enumerate(line):
        if sign == "\n" and (escaping or quote != ""):
            raise BadSign(at)
        if escaping:
            begun, escaping = _longer(begun, sign, at), False
        elif sign == "\\" and quote != "'":
            escaping = True
        elif sign == quote:
            quote = ""
        elif quote == "" and sign in QUOTES:
            begun, quote, opened = begun or "", sign, at
        elif quote == "" and sign in PARTING:
            if begun is not None:
                words.append(begun)
            begun = None
        else:
            begun = _longer(begun, sign, at)
    if escaping:
        raise BadSign(len(line) - 1)
    return words, begun, quote, opened


def _longer(begun, sign, at):
    """The word begun with a sign more; refused with BadSign of the sign's number."""
    word = (begun or "") + sign
    if len(word) > MOST_SIGNS:
        raise BadSign(at)
    return word


def _refuse_too_many(many):
    """Refuses more words than a line may have."""
    if many > MOST_WORDS:
        raise TooMany(many)


def quoted(word):
    """A word quoted in the fewest signs; refused with NoWord."""
    if not is_word(word):
        raise NoWord(word)
    if word.isalnum():
        # Letters and figures need nothing; this is what most words are made of.
        return word
    return min(_ways(word), key=len)


def _ways(word):
    """The ways to quote a word; the first is the word as it is, where no sign needs more."""
    ways = []
    if word != "":
        ways.append(_escaped(word, NEEDING))
    if "'" not in word:
        ways.append("'" + word + "'")
    ways.append('"' + _escaped(word, NEEDING_WITHIN) + '"')
    return ways


def _escaped(text, needing):
    """A text with a backslash ahead of each sign that needs it."""
    return "".join(["\\" + sign if sign in needing else sign for sign in text])


def joined(words):
    """A list of words quoted, one blank between any two; refused with NoList."""
    if not are_words(words):
        raise NoList(words)
    return " ".join([quoted(word) for word in words])


def quoted_behind(state, word):
    """What makes the word begun of a state this word, and a blank; refused with NoState, NoWord."""
    if not is_state(state):
        raise NoState(state)
    if not is_word(word) or not word.startswith(state[1] or ""):
        raise NoWord(word)
    return written_behind(state, word)


def written_behind(state, word):
    """What makes the word begun of what is known to be a state a word that begins so, and a blank."""
    _, begun, quote = state
    if begun is None:
        return quoted(word) + " "
    return _rest_quoted(word[len(begun):], quote) + " "


def is_state(thing):
    """Whether the thing is a state as state_of tells it."""
    if not isinstance(thing, tuple) or len(thing) != 3:
        return False
    words, begun, quote = thing
    if not are_words(words):
        return False
    if begun is None:
        return quote == ""
    return is_word(begun) and (quote == "" or quote in QUOTES)


def _rest_quoted(rest, quote):
    """What is left of a word, written within the quote that is open, which is closed then."""
    if quote == "'":
        return rest.replace("'", "'\\''") + "'"
    if quote == '"':
        return _escaped(rest, NEEDING_WITHIN) + '"'
    return _escaped(rest, NEEDING)


def shows_cut(line, thing):
    """Whether the thing is the list of words to which a line is cut; refused as cut."""
    words = cut(line)
    return isinstance(thing, (list, tuple)) and list(thing) == words


def are_alike(line, other):
    """Whether two lines are cut to the same words; refused as cut."""
    return cut(line) == cut(other)
