"""The refusals: three families, and straight beneath them an error for each kind of failure.

An error keeps its fields as they are, copies nothing, and leaves its text to Python, which makes it of the fields.
"""


class CallError(ValueError):
    """What is handed in isn't what is wanted."""


class Missing(KeyError):
    """What is asked for isn't there."""


class Barred(LookupError):
    """What is asked for can't be now."""


class NoNumber(CallError):
    """No whole number, or none from low to high, where one is wanted."""

    def __init__(self, found):
        self.found = found


class NoName(CallError):
    """No name where one is wanted."""

    def __init__(self, found):
        self.found = found


class NoTruth(CallError):
    """Neither True nor False where one of them is wanted."""

    def __init__(self, found):
        self.found = found


class NoWord(CallError):
    """No word where one is wanted, or none that begins as it must."""

    def __init__(self, found):
        self.found = found


class NoKind(CallError):
    """No worth's kind where one is wanted."""

    def __init__(self, found):
        self.found = found


class NoWorth(CallError):
    """No worth of the kind."""

    def __init__(self, found):
        self.found = found


class NoList(CallError):
    """No list of what is wanted; found is the whole of it."""

    def __init__(self, found):
        self.found = found


class NoLine(CallError):
    """No line where one is wanted."""

    def __init__(self, found):
        self.found = found


class BadSign(CallError):
    """A line goes wrong at the sign of this number."""

    def __init__(self, at):
        self.at = at


class NoState(CallError):
    """No state of a line that breaks off."""

    def __init__(self, found):
        self.found = found


class NoOwn(CallError):
    """No table of own names."""

    def __init__(self, found):
        self.found = found


class Unfit(CallError):
    """A command at the path where is unfit, for the reason why."""

    def __init__(self, where, why, found):
        self.where = where
        self.why = why
        self.found = found


class NoGrammar(CallError):
    """No Grammar where one is wanted."""

    def __init__(self, found):
        self.found = found


class NoReading(CallError):
    """No reading where one is wanted."""

    def __init__(self, found):
        self.found = found


class NoRoom(CallError):
    """No room where one is wanted."""

    def __init__(self, found):
        self.found = found


class NoBook(CallError):
    """No book where one is wanted."""

    def __init__(self, found):
        self.found = found


class NoText(CallError):
    """No text of signs and line feeds where one is wanted."""

    def __init__(self, found):
        self.found = found


class NoRow(CallError):
    """The row of this number in a text is none of the wanted form."""

    def __init__(self, at):
        self.at = at


class NoCall(CallError):
    """No Call where one is wanted."""

    def __init__(self, found):
        self.found = found


class NoChange(CallError):
    """No change of a grammar."""

    def __init__(self, found):
        self.found = found


class NoDeeds(CallError):
    """No table of deeds."""

    def __init__(self, found):
        self.found = found


class NoAnswer(CallError):
    """No answer of a deed."""

    def __init__(self, found):
        self.found = found


class Wrong(CallError):
    """Words that are no reading: the first wrong word, its first wrong sign, the words that would do."""

    def __init__(self, at, sign, words):
        self.at = at
        self.sign = sign
        self.words = words


class Unread(CallError):
    """What a layer gives for the option of this name, and what can't be read so."""

    def __init__(self, layer, name, found):
        self.layer = layer
        self.name = name
        self.found = found


class NotThere(Missing):
    """What is asked for isn't there."""

    def __init__(self, found):
        self.found = found


class Lacks(Missing):
    """The option of this name is in need and has no worth."""

    def __init__(self, name):
        self.name = name


class TooMany(Barred):
    """This many, which is more than there may be."""

    def __init__(self, many):
        self.many = many


class NoWay(Barred):
    """No words lead to what is found."""

    def __init__(self, found):
        self.found = found


class Reads(Barred):
    """The words read, where such are wanted that don't."""

    def __init__(self, found):
        self.found = found


class Gone(Barred):
    """What is called so, at the path where, is gone in the newer edition."""

    def __init__(self, where, name):
        self.where = where
        self.name = name


class Over(Barred):
    """The script is at its end, behind this many rows."""

    def __init__(self, many):
        self.many = many


class Stuck(Barred):
    """The row of this number has no undo."""

    def __init__(self, at):
        self.at = at


class Busy(Barred):
    """The row of this number is being done or undone."""

    def __init__(self, at):
        self.at = at
