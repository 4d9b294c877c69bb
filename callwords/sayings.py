"""What a desk is told and answers: paths, changes and calls as texts."""

from callwords.commands import FORM, KIND, NAME, OPTIONS, is_path
from callwords.errors import NotThere
from callwords.kinds import is_letter, is_name
from callwords.lines import cut, is_line, joined
from callwords.rowforms import default_of, kind_ahead, option_of
from callwords.shortening import worth_word

ROOT = "/"
NO_LETTER = "-"
FLAG_WORDS = ("no", "yes")
PART = "; "
TO_NAMES = ("rename", "command")


def path_text(path):
    """A path as a desk writes it."""
    return ROOT + ROOT.join(list(path))


def path_of(text):
    """The path that a text writes, or None."""
    if text == ROOT:
        return ()
    parts = text.split(ROOT)
    path = tuple(parts[1:])
    return path if parts[0] == "" and len(path) > 0 and is_path(path) else None


def change_of(grammar, text):
    """The change that a text writes, or None; refused as cut, and with NotThere where a default is of none."""
    if not is_line(text):
        return None
    words = cut(text)
    path = path_of(words[1]) if len(words) > 1 else None
    return None if path is None else _change_with(grammar, words[0], path, words[2:])


def _change_with(grammar, word, path, rest):
    """The change of a word and a path that the words behind these write, or None."""
    if word == "more":
        option = option_of(rest)
        return None if option is None else (word, path, option)
    if not rest or not is_name(rest[0]):
        return None
    name, behind = rest[0], rest[1:]
    if word == "gone":
        return None if behind else (word, path, name)
    if word == "kind":
        kind, left = kind_ahead(behind)
        return None if kind is None or left else (word, path, name, kind)
    if word == "default":
        return _default_with(grammar, path, name, behind)
    return _change_to(word, path, name, behind[0]) if len(behind) == 1 else None


def _change_to(word, path, name, new):
    """The change by which what has a name gets another name, or another letter, or none; None where it is none."""
    if word == "letter" and new == NO_LETTER:
        return word, path, name, None
    fits = is_letter(new) if word == "letter" else word in TO_NAMES and is_name(new)
    return (word, path, name, new) if fits else None


def _default_with(grammar, path, name, words):
    """The change of a default that words write, or None; refused with NotThere of the path, of the option's name."""
    for option in grammar.command(path)[OPTIONS]:
        if option[NAME] == name:
            found = default_of(option[FORM], option[KIND], words)
            return None if found is None else ("default", path, name, found[0])
    raise NotThere(name)


def call_text(grammar, call):
    """A Call as a desk tells it: its path, its options with their whence, its places."""
    whence, parts = call.whence(), [path_text(call.path())]
    for path, name, worth in call.worths():
        flag = grammar.option(path, name)[FORM] == "flag"
        text = name + _worths_text((FLAG_WORDS[worth],) if flag else worth)
        parts.append(path_text(path) + " " + text + " " + whence[path, name])
    parts += [name + _worths_text(worth) for name, worth in call.places()]
    return PART.join(parts)


def _worths_text(worth):
    """A worth, or a tuple of worths, behind the name of what has it; nothing of None."""
    if worth is None:
        return ""
    worths = worth if isinstance(worth, tuple) else (worth,)
    return "=" + joined([worth_word(one) for one in worths])


def with_words(word, words):
    """A word, and words, joined, where there are some."""
    return " ".join([word] + ([joined(words)] if words else []))
