"""Help: usage rows, pages of a path, and words that go by a usage row."""

from callwords.commands import COMMANDS, DEFAULT, FORM, GROUPS, KIND, NAME, NEEDED, OPTIONS, PLACES, REPEATED
from callwords.commands import MOST_REST, SHORT, SOURCE, WITH_KIND
from callwords.errors import NoList, NoNumber, NotThere
from callwords.grammars import are_among, command_at, goes_on
from callwords.kinds import MOST_COUNT, MOST_MANY, is_whole, number_word
from callwords.lines import joined
from callwords.reading import read
from callwords.readings import names_on
from callwords.shortening import worth_word
from callwords.usages import all_rows
from callwords.writing import plain

LEAST_WIDTH = 24
MOST_WIDTH = 100
WIDTH = 60
FURTHER = "    "
MOST_WORTHS = {"count": MOST_COUNT, "many": MOST_MANY, "rest": MOST_REST, "some": MOST_REST}
PLACE_ENDS = {"one": ("", ""), "maybe": ("[", "]"), "rest": ("[", "..]"), "some": ("", "..")}
OPTION_ENDS = {"flag": "", "count": "..", "one": "", "many": ".."}
FLAG_WORDS = ("no", "yes")


def usage(grammar, path):
    """All usage rows of a path, a new list of tuples (must, may); refused with NoGrammar, NotThere."""
    command_at(grammar, path)
    return all_rows(grammar, path)


def row_for(grammar, path, names):
    """The first usage row by which a set of names goes, or None; refused with NoGrammar, NotThere, NoList."""
    options = command_at(grammar, path)[OPTIONS]
    if not are_among(names, [option[NAME] for option in options]):
        raise NoList(names)
    return _first_row(grammar, path, names)


def _first_row(grammar, path, names):
    """The first usage row of one of the paths by which a set of names goes, or None."""
    for must, may in all_rows(grammar, path):
        if all([name in names for name in must]) and all([name in must + may for name in names]):
            return must, may
    return None


def usage_text(grammar, path, row):
    """A usage row as a text; refused with NoGrammar, NotThere of the path, then of what is no usage row."""
    if row not in usage(grammar, path):
        raise NotThere(row)
    return _row_text(grammar, path, row)


def _row_text(grammar, path, row):
    """A usage row as a text, where it is known to be one."""
    must, may = row
    command = grammar.command(path)
    parts = [">", *path]
    for option in command[OPTIONS]:
        if option[NAME] in must:
            parts.append(_option_text(option))
        elif option[NAME] in may:
            parts.append("[" + _option_text(option) + "]")
    if command[COMMANDS]:
        parts.append("COMMAND")
    for name, _, times in command[PLACES]:
        ahead, behind = PLACE_ENDS[times]
        parts.append(ahead + name + behind)
    return " ".join(parts)


def _option_text(option):
    """An option in a usage row."""
    name, short, form, kind, _, _, _ = option
    letter = "" if short is None else "-" + short + ", "
    worth = "=" + _kind_text(kind) if form in WITH_KIND else ""
    return letter + "--" + name + worth + OPTION_ENDS[form]


def _kind_text(kind):
    """What help tells of a kind's worths."""
    if kind[0] == "number":
        return number_word(kind[1]) + "-" + number_word(kind[2])
    if kind[0] == "one":
        return "|".join(list(kind[1]))
    return "<" + kind[1] + ">" if kind[0] == "own" else kind[0]


def page(grammar, path, *, width=WIDTH):
    """The lines of a path's help, a new list of texts; refused with NoGrammar, NotThere, NoNumber."""
    command_at(grammar, path)
    if not is_whole(width, LEAST_WIDTH, MOST_WIDTH):
        raise NoNumber(width)
    lines = []
    for line in _all_facts(grammar, path):
        lines += _wrapped(line, width)
    return lines


def _all_facts(grammar, path):
    """The lines of a path's help, however long."""
    command = grammar.command(path)
    lines = [_row_text(grammar, path, row) for row in all_rows(grammar, path)]
    found = grammar.sets_at(path)
    for option in command[OPTIONS]:
        stands = any([option[NAME] in names for names in found])
        if stands or option[FORM] == "flag":
            lines.append(option[NAME] + ": " + "; ".join(_option_facts(option, stands)))
    for name, kind, times in command[PLACES]:
        lines.append(name + ": " + "; ".join(_bounds(times, kind)))
    for word, names in command[GROUPS]:
        lines.append(word + " " + ", ".join(list(names)))
    beneath = [below[NAME] for below in command[COMMANDS]]
    return lines + ["command " + name for name in beneath if goes_on(grammar, path + (name,), False)]


def _option_facts(option, stands):
    """What help tells of an option; stands tells whether some set has it."""
    name, _, form, kind, _, need, source = option
    facts = ["off by --no-" + name] if form == "flag" else []
    facts += _bounds(form, kind) + _default_facts(option)
    facts += ["needed"] if need else []
    facts += [] if source is None else ["room " + source]
    return facts if stands else facts + ["not in a line"]


def _bounds(form, kind):
    """How often at most, and of which worths, by an option's form or a place's times."""
    facts = ["at most " + number_word(MOST_WORTHS[form])] if form in MOST_WORTHS else []
    return facts if kind is None else facts + ["of " + _kind_text(kind)]


def _default_facts(option):
    """The default of an option, where there is any."""
    form, default = option[FORM], option[DEFAULT]
    if form == "flag":
        return ["default " + FLAG_WORDS[default]]
    if form == "count":
        return ["default " + number_word(default)]
    worths = default if form == "many" else () if default is None else (default,)
    return ["default " + joined([worth_word(worth) for worth in worths])] if worths else []


def _wrapped(line, width):
    """A line in as many as the width lets, each further one behind four blanks, which don't count as its blanks."""
    lines, ahead = [], ""
    while len(ahead) + len(line) > width:
        end = line.rfind(" ", 0, width - len(ahead)) + 1
        if end == 0:
            end = width - len(ahead)
        lines.append(ahead + line[:end])
        line, ahead = line[end:], FURTHER
    return lines + [ahead + line]


def facts(lines):
    """The lines of a page as they are in no width, a new list of texts; refused with NoList."""
    if not isinstance(lines, (list, tuple)) or not all([isinstance(line, str) for line in lines]):
        raise NoList(lines)
    found = []
    for line in lines:
        if found and line.startswith(FURTHER):
            found[-1] += line[len(FURTHER):]
        else:
            found.append(line)
    return found


def rows_of(grammar, words):
    """By which first rows words go, a new list of tuples (path, row), command by command; refused as read."""
    path, rows, _ = read(grammar, words)
    found = []
    for at, row in enumerate(rows):
        standing = [grammar.option(path[:at], name) for name, _ in row]
        on = names_on(standing, [worth for _, worth in row])
        found.append((path[:at], _first_row(grammar, path[:at], on)))
    return found


def words_for(grammar, path, row):
    """The plain list that goes by a usage row, or None; refused with NoGrammar, NotThere of the path, of the row."""
    if row not in usage(grammar, path):
        raise NotThere(row)
    above = [path[:at] for at in range(len(path))]
    if not all([grammar.sets_at(where) for where in above]) or not goes_on(grammar, path, False):
        return None
    way = _way_on(grammar, path)
    rows = [grammar.sets_at(way[:at])[0] if at != len(path) else row[0] for at in range(len(way) + 1)]
    given = tuple([_row_given(grammar, way[:at], names) for at, names in enumerate(rows)])
    return plain(grammar, (way, given, _places_given(grammar, way)))


def _way_on(grammar, path):
    """The path of the command to which a path leads by those that come first and can be gone to the end."""
    for below in grammar.command(path)[COMMANDS]:
        further = path + (below[NAME],)
        if goes_on(grammar, further, False):
            return _way_on(grammar, further)
    return path


def _row_given(grammar, path, names):
    """Options of these names, each with one worth, as in a reading."""
    options = [option for option in grammar.command(path)[OPTIONS] if option[NAME] in names]
    return tuple([(option[NAME], _given(grammar, option)) for option in options])


def _given(grammar, option):
    """One worth of an option that stands."""
    if option[FORM] not in WITH_KIND:
        return 1
    worth = _some_worth(grammar, option[KIND])
    return (worth,) if option[FORM] == "many" else worth


def _some_worth(grammar, kind):
    """One worth of a kind that has any."""
    if kind[0] == "number":
        return kind[1]
    if kind[0] == "text":
        return ""
    return "a" if kind[0] == "name" else (kind[1] if kind[0] == "one" else grammar.own_words(kind))[0]


def _places_given(grammar, path):
    """The places that may not lack, each with one worth, as in a reading."""
    found = []
    for name, kind, times in grammar.command(path)[PLACES]:
        if times in NEEDED:
            worth = _some_worth(grammar, kind)
            found.append((name, (worth,) if times in REPEATED else worth))
    return tuple(found)
