"""Words, kinds and worths: what is one, and how worths and the words that write them lead to and fro."""

from callwords.errors import NoKind, NoList, NoNumber, NoWorth

MOST_LETTERS = 8
MOST_SIGNS = 40
MOST_NUMBER = 999999
MOST_NAMES = 8
MOST_TEXT = 20
MOST_OWN = 8
MOST_OWN_SIGNS = 20
MOST_COUNT = 9
MOST_MANY = 6
LOT = 10 ** 18
LOT_FIGURES = 18


def is_whole(thing, low, high):
    """Whether the thing is a whole number from low to high."""
    return isinstance(thing, int) and not isinstance(thing, bool) and low <= thing <= high


def is_number(thing):
    """Whether the thing is a whole number of any size."""
    return isinstance(thing, int) and not isinstance(thing, bool)


def is_name(thing):
    """Whether the thing is a text of one to eight small letters."""
    if not isinstance(thing, str) or not 1 <= len(thing) <= MOST_LETTERS:
        return False
    # Of plain signs just the small letters are both letters and small.
    return thing.isascii() and thing.isalpha() and thing.islower()


def is_letter(thing):
    """Whether the thing is a text of one small letter."""
    return isinstance(thing, str) and len(thing) == 1 and "a" <= thing <= "z"


def is_word(thing):
    """Whether the thing is a text of none to forty signs."""
    return isinstance(thing, str) and len(thing) <= MOST_SIGNS and are_signs(thing)


def are_signs(text):
    """Whether each of a text is a sign."""
    return text.isascii() and text.isprintable()


def is_kind(thing):
    """Whether the thing is a worth's kind."""
    if not isinstance(thing, tuple) or len(thing) == 0:
        return False
    head, many = thing[0], len(thing)
    if many == 2:
        if head == "own":
            return is_name(thing[1])
        if head == "text":
            return is_whole(thing[1], 1, MOST_TEXT)
        return head == "one" and _are_choices(thing[1])
    if head == "number":
        return _are_bounds(thing[1:])
    return head == "name" and many == 1


def _are_bounds(things):
    """Whether a tuple is the low and the high of a number's kind."""
    if len(things) != 2 or not is_whole(things[0], -MOST_NUMBER, MOST_NUMBER):
        return False
    return is_whole(things[1], things[0], MOST_NUMBER)


def _are_choices(thing):
    """Whether the thing is a tuple of one to eight unlike names."""
    if not isinstance(thing, tuple) or not 1 <= len(thing) <= MOST_NAMES:
        return False
    return all([is_name(name) for name in thing]) and are_unlike(thing)


def are_unlike(texts):
    """Whether no two of a list of texts are the same."""
    return len(set(texts)) == len(texts)


def are_own_words(thing):
    """Whether the thing is a list of none to eight unlike words of one to twenty signs."""
    if not isinstance(thing, (list, tuple)) or len(thing) > MOST_OWN:
        return False
    return all([is_word(word) and 1 <= len(word) <= MOST_OWN_SIGNS for word in thing]) and are_unlike(thing)


def number_word(number):
    """The plain word of a whole number; refused with NoNumber."""
    if not is_number(number):
        raise NoNumber(number)
    if -LOT < number < LOT:
        return str(number)
    # Python's str breaks off at some thousand figures, so the figures are written in lots.
    rest, lots = abs(number), []
    while rest >= LOT:
        rest, lot = divmod(rest, LOT)
        lots.append(str(lot).zfill(LOT_FIGURES))
    lots.append(str(rest))
    below = "-" if number < 0 else ""
    return below + "".join(reversed(lots))


def number_in(thing):
    """The whole number that the thing plainly writes, or None."""
    if not isinstance(thing, str):
        return None
    below = thing.startswith("-")
    figures = thing[1:] if below else thing
    if not _are_figures(figures) or (below and figures == "0"):
        return None
    if len(figures) <= LOT_FIGURES:
        return int(thing)
    # Python's int breaks off at some thousand figures, so they are taken one by one.
    number = 0
    for figure in figures:
        number = number * 10 + int(figure)
    return -number if below else number


def _are_figures(text):
    """Whether a text is figures with no 0 ahead of others."""
    if not text.isascii() or not text.isdigit():
        return False
    return text == "0" or text[0] != "0"


def is_worth(kind, thing, *, own=()):
    """Whether the thing is a worth of the kind; refused with NoKind, NoList."""
    _look_at(kind, own)
    return fits(kind, thing, own)


def _look_at(kind, own):
    """Refuses what is no kind, then what is no list of own words."""
    if not is_kind(kind):
        raise NoKind(kind)
    if not are_own_words(own):
        raise NoList(own)


def fits(kind, thing, own):
    """Whether the thing is a worth of a kind, where kind and own words are known to be such."""
    if kind[0] == "number":
        return is_whole(thing, kind[1], kind[2])
    if kind[0] == "name":
        return is_name(thing)
    if kind[0] == "text":
        return is_word(thing) and len(thing) <= kind[1]
    return thing in (kind[1] if kind[0] == "one" else own)


def word_of(kind, worth, *, own=()):
    """The word of a worth; refused with NoKind, NoList, NoWorth."""
    _look_at(kind, own)
    if not fits(kind, worth, own):
        raise NoWorth(worth)
    return number_word(worth) if kind[0] == "number" else worth


def worth_of(kind, word, *, own=()):
    """The worth that a word writes, or None; refused with NoKind, NoList."""
    _look_at(kind, own)
    worth = number_in(word) if kind[0] == "number" else word
    return worth if fits(kind, worth, own) else None


def worth_in(kind, word, own):
    """The worth that a word writes, or None, where kind, word and own words are known to be such."""
    head = kind[0]
    if head == "text":
        return word if len(word) <= kind[1] else None
    if head == "number":
        number = number_in(word)
        return number if number is not None and kind[1] <= number <= kind[2] else None
    if head == "name":
        return word if is_name(word) else None
    return word if word in (kind[1] if head == "one" else own) else None


def begins_worth(kind, thing, *, own=()):
    """Whether the thing is a text with which some worth's word begins; refused with NoKind, NoList."""
    _look_at(kind, own)
    return isinstance(thing, str) and begins(kind, thing, own)


def begins(kind, text, own):
    """Whether the word of some worth of a kind begins with a text."""
    if kind[0] == "number":
        return _begins_number(kind[1], kind[2], text)
    if kind[0] == "name":
        return text == "" or is_name(text)
    if kind[0] == "text":
        return fits(kind, text, own)
    return any([word.startswith(text) for word in (kind[1] if kind[0] == "one" else own)])


def _begins_number(low, high, text):
    """Whether the word of some number from low to high begins with a text."""
    if text == "":
        return True
    if text == "-":
        return low < 0
    number = number_in(text)
    if number is None:
        return False
    if number == 0:
        return low <= 0 <= high
    if number < 0:
        return _has_begun(-high, -low, -number)
    return _has_begun(low, high, number)


def _has_begun(low, high, number):
    """Whether any number from low to high begins with the figures of a number above 0."""
    first = last = number
    while first <= high:
        if last >= low:
            return True
        first, last = first * 10, last * 10 + 9
    return False


def known_words(kind, *, own=()):
    """The known words of a kind, a new list; refused with NoKind, NoList."""
    _look_at(kind, own)
    return words_of(kind, own)


def words_of(kind, own):
    """The known words of a kind, where kind and own words are known to be such."""
    if kind[0] == "one":
        return list(kind[1])
    return list(own) if kind[0] == "own" else []


def has_worth(kind, *, own=()):
    """Whether a kind has any worth; refused with NoKind, NoList."""
    _look_at(kind, own)
    return has_any(kind, own)


def has_any(kind, own):
    """Whether a kind has any worth, where kind and own words are known to be such."""
    return kind[0] != "own" or len(own) > 0


def default_fits(form, kind, default):
    """Whether a default is one of an option of this form and kind."""
    if form in ("flag", "count"):
        return kind is None and fits_form(form, kind, default)
    return form in ("one", "many") and is_kind(kind) and fits_form(form, kind, default)


def fits_form(form, kind, default):
    """Whether a default is one of an option of this form and kind, where both are known to be such."""
    if form == "flag":
        return is_whole(default, 0, 1)
    if form == "count":
        return is_whole(default, 0, MOST_COUNT)
    if form == "one":
        return default is None or _fits_as_default(kind, default)
    return _are_defaults(kind, default)


def _fits_as_default(kind, thing):
    """Whether the thing is a worth of a kind, any word being one of an own kind."""
    return is_word(thing) if kind[0] == "own" else fits(kind, thing, ())


def _are_defaults(kind, thing):
    """Whether the thing is a tuple of none to six worths."""
    if not isinstance(thing, tuple) or len(thing) > MOST_MANY:
        return False
    return all([_fits_as_default(kind, worth) for worth in thing])
