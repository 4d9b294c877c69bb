"""Help: usage rows, pages of a path, and words that go by a usage row."""

from callwords.commands import DEFAULT, FORM, KIND, MOST_REST, NAME, REPEATED, WITH_KIND
from callwords.errors import NoList, NoNumber, NotThere
from callwords.grammars import are_among, node_at
from callwords.kinds import MOST_COUNT, MOST_MANY, is_whole, number_word, words_of
from callwords.lines import joined
from callwords.reading import read
from callwords.shortening import worth_word
from callwords.usages import all_rows, first_row
from callwords.writing import plain

LEAST_WIDTH = 24
MOST_WIDTH = 100
WIDTH = 60
FURTHER = "    "
MOST_WORTHS = {"count": MOST_COUNT, "many": MOST_MANY, "rest": MOST_REST, "some": MOST_REST}
PLACE_ENDS = {"one": ("", ""), "maybe": ("[", "]"), "rest": ("[", "..]"), "some": ("", "..")}
OPTION_ENDS = {"flag": "", "count": "..", "one": "", "many": ".."}
FLAG_WORDS = ("no", "yes")


def usage(grammar, path):
    """All usage rows of a path, a new list of tuples (must, may); refused with NoGrammar, NotThere."""
    return list(all_rows(node_at(grammar, path)))


def row_for(grammar, path, names):
    """The first usage row by which a set of names goes, or None; refused with NoGrammar, NotThere, NoList."""
    node = node_at(grammar, path)
    if not are_among(names, list(node.numbers)):
        raise NoList(names)
    return first_row(node, names)


def usage_text(grammar, path, row):
    """A usage row as a text; refused with NoGrammar, NotThere of the path, then of what is no usage row."""
    if row not in usage(grammar, path):
        raise NotThere(row)
    return _row_text(grammar.node_of(path), row)


def _row_text(node, row):
    """A usage row as a text, where it is known to be one."""
    must, may = row
    parts = [">", *node.way]
    for option in node.options:
        if option[NAME] in must:
            parts.append(_option_text(option))
        elif option[NAME] in may:
            parts.append("[" + _option_text(option) + "]")
    if node.beneath:
        parts.append("COMMAND")
    for name, _, times in node.place_parts:
        ahead, behind = PLACE_ENDS[times]
        parts.append(ahead + name + behind)
    return " ".join(parts)


def _option_text(option):
    """An option in a usage row."""
    name, short, form, kind, _, _, _ = option
    letter = "" if short is None else "-" + short + ", "
    worth = "=" + _kind_text(kind) if form in WITH_KIND else ""
    return letter + "--" + name + worth + OPTION_ENDS[form]


def _kind_text(kind):
    """What help tells of a kind's worths."""
    if kind[0] == "number":
        return number_word(kind[1]) + "-" + number_word(kind[2])
    if kind[0] == "one":
        return "|".join(list(kind[1]))
    return "<" + kind[1] + ">" if kind[0] == "own" else kind[0]


def page(grammar, path, *, width=WIDTH):
    """The lines of a path's help, a new list of texts; refused with NoGrammar, NotThere, NoNumber."""
    node = node_at(grammar, path)
    if not is_whole(width, LEAST_WIDTH, MOST_WIDTH):
        raise NoNumber(width)
    lines = []
    for line in _all_facts(node):
        lines += _wrapped(line, width)
    return lines


def _all_facts(node):
    """The lines of a command's help, however long."""
    lines = [_row_text(node, row) for row in all_rows(node)]
    for number, option in enumerate(node.options):
        stands = node.has_between(1 << number, 0)
        if stands or option[FORM] == "flag":
            lines.append(option[NAME] + ": " + "; ".join(_option_facts(option, stands)))
    for name, kind, times in node.place_parts:
        lines.append(name + ": " + "; ".join(_bounds(times, kind)))
    for word, names in node.groups:
        lines.append(word + " " + ", ".join(list(names)))
    return lines + ["command " + name for name, below in node.beneath.items() if below.goes]


def _option_facts(option, stands):
    """What help tells of an option; stands tells whether some set has it."""
    name, _, form, kind, _, need, source = option
    found = ["off by --no-" + name] if form == "flag" else []
    found += _bounds(form, kind) + _default_facts(option)
    found += ["needed"] if need else []
    found += [] if source is None else ["room " + source]
    return found if stands else found + ["not in a line"]


def _bounds(form, kind):
    """How often at most, and of which worths, by an option's form or a place's times."""
    found = ["at most " + number_word(MOST_WORTHS[form])] if form in MOST_WORTHS else []
    return found if kind is None else found + ["of " + _kind_text(kind)]


def _default_facts(option):
    """The default of an option, where there is any."""
    form, default = option[FORM], option[DEFAULT]
    if form == "flag":
        return ["default " + FLAG_WORDS[default]]
    if form == "count":
        return ["default " + number_word(default)]
    worths = default if form == "many" else () if default is None else (default,)
    return ["default " + joined([worth_word(worth) for worth in worths])] if worths else []


def _wrapped(line, width):
    """A line in as many as the width lets, each further one behind four blanks, which don't count as its blanks."""
    lines, ahead = [], ""
    while len(ahead) + len(line) > width:
        end = line.rfind(" ", 0, width - len(ahead)) + 1
        if end == 0:
            end = width - len(ahead)
        lines.append(ahead + line[:end])
        line, ahead = line[end:], FURTHER
    return lines + [ahead + line]


def facts(lines):
    """The lines of a page as they are in no width, a new list of texts; refused with NoList."""
    if not isinstance(lines, (list, tuple)) or not all([isinstance(line, str) for line in lines]):
        raise NoList(lines)
    found = []
    for line in lines:
        if found and line.startswith(FURTHER):
            found[-1] += line[len(FURTHER):]
        else:
            found.append(line)
    return found


def rows_of(grammar, words):
    """By which first rows words go, a new list of tuples (path, row), command by command; refused as read."""
    path, rows, _ = read(grammar, words)
    found = []
    for at, row in enumerate(rows):
        node = grammar.node_of(path[:at])
        # A worth of 0 is a number's, too.
        on = [name for name, worth in row if node.options[node.numbers[name]][FORM] != "flag" or worth == 1]
        found.append((node.way, first_row(node, on)))
    return found


def words_for(grammar, path, row):
    """The plain list that goes by a usage row, or None; refused with NoGrammar, NotThere of the path, of the row."""
    if row not in usage(grammar, path):
        raise NotThere(row)
    nodes = [grammar.node_of(path[:at]) for at in range(len(path) + 1)]
    if not all([node.fitting for node in nodes]) or not nodes[-1].goes:
        return None
    rows = [node.sets()[0] for node in nodes[:-1]] + [row[0]]
    while nodes[-1].beneath:
        nodes.append([below for below in nodes[-1].beneath.values() if below.goes][0])
        rows.append(nodes[-1].sets()[0])
    given = tuple([_row_given(node, names) for node, names in zip(nodes, rows)])
    return plain(grammar, (nodes[-1].way, given, _places_given(nodes[-1])))


def _row_given(node, names):
    """Options of these names, each with one worth, as in a reading."""
    given = [(option[NAME], _given(option, own)) for option, own in zip(node.options, node.owns)]
    return tuple([(name, worth) for name, worth in given if name in names])


def _given(option, own):
    """One worth of an option that stands, None where its kind has none."""
    if option[FORM] not in WITH_KIND:
        return 1
    worth = _some_worth(option[KIND], own)
    return (worth,) if option[FORM] == "many" else worth


def _some_worth(kind, own):
    """One worth of a kind, None where it has none."""
    if kind[0] == "number":
        return kind[1]
    if kind[0] == "text":
        return ""
    words = ["a"] if kind[0] == "name" else words_of(kind, own)
    return words[0] if words else None


def _places_given(node):
    """The places that may not lack, each with one worth, as in a reading."""
    found = []
    for (name, kind, times), own in zip(node.place_parts[:node.needed], node.place_owns):
        worth = _some_worth(kind, own)
        found.append((name, (worth,) if times in REPEATED else worth))
    return tuple(found)
