"""Options, places, groups and commands: what is one by its form, and at which number each of their parts stands."""

from callwords.kinds import are_unlike, is_kind, is_letter, is_name

NAME = 0
OPTIONS = 1
PLACES = 2
GROUPS = 3
COMMANDS = 4
SHORT = 1
FORM = 2
KIND = 3
DEFAULT = 4
NEED = 5
SOURCE = 6
COMMAND_PARTS = 5
OPTION_PARTS = 7
PLACE_PARTS = 3
GROUP_PARTS = 2
FORMS = ("flag", "count", "one", "many")
WITH_KIND = ("one", "many")
RANKS = {"one": 0, "maybe": 1, "rest": 2, "some": 2}
LAST_RANK = 2
NEEDED = ("one", "some")
REPEATED = ("rest", "some")
GROUPINGS = ("just", "most", "with", "needs")
LEAST_OPTION_LETTERS = 2
LEAST_GROUPED = 2
MOST_OPTIONS = 6
MOST_PLACES = 4
MOST_GROUPS = 4
MOST_BENEATH = 6
MOST_REST = 30


def is_path(thing):
    """Whether the thing is a tuple of names."""
    return isinstance(thing, tuple) and all([is_name(name) for name in thing])


def begins_with_name(thing):
    """Whether the thing is a tuple that begins with a name."""
    return isinstance(thing, tuple) and len(thing) > 0 and is_name(thing[NAME])


def has_command_form(thing):
    """Whether the thing is a command by its form; defaults, and what stands beneath, are not looked at."""
    if not begins_with_name(thing) or len(thing) != COMMAND_PARTS:
        return False
    _, options, places, groups, commands = thing
    if not _is_tuple_to(options, MOST_OPTIONS) or not all([has_option_form(option) for option in options]):
        return False
    if not _is_tuple_to(places, MOST_PLACES) or not _are_places(places):
        return False
    if not _is_tuple_to(groups, MOST_GROUPS) or not all([has_group_form(group) for group in groups]):
        return False
    return _is_tuple_to(commands, MOST_BENEATH) and (len(commands) == 0 or len(places) == 0)


def _is_tuple_to(thing, most):
    """Whether the thing is a tuple of at most so many."""
    return isinstance(thing, tuple) and len(thing) <= most


def has_option_form(thing):
    """Whether the thing is an option by its form, its default apart, but that need wants None."""
    if not isinstance(thing, tuple) or len(thing) != OPTION_PARTS:
        return False
    name, short, form, kind, default, need, source = thing
    if not is_name(name) or len(name) < LEAST_OPTION_LETTERS or not (short is None or is_letter(short)):
        return False
    if form not in FORMS or not (is_kind(kind) if form in WITH_KIND else kind is None):
        return False
    if not isinstance(need, bool) or not (source is None or is_name(source)):
        return False
    return not need or (form == "one" and default is None)


def _are_places(things):
    """Whether each of a tuple is a place, and they stand in the order in which words fill them."""
    return all([has_place_form(thing) for thing in things]) and _are_in_order([times for _, _, times in things])


def has_place_form(thing):
    """Whether the thing is a place by its form."""
    if not begins_with_name(thing) or len(thing) != PLACE_PARTS:
        return False
    return is_kind(thing[1]) and thing[2] in list(RANKS)


def _are_in_order(times):
    """Whether any ones stand ahead of any maybes, and those ahead of one rest, or, without maybes, one some."""
    ranks = [RANKS[word] for word in times]
    if ranks != sorted(ranks) or ranks.count(LAST_RANK) > 1:
        return False
    return "maybe" not in times or "some" not in times


def has_group_form(thing):
    """Whether the thing is a group by its form; whether its names are options isn't looked at."""
    if not isinstance(thing, tuple) or len(thing) != GROUP_PARTS or thing[0] not in GROUPINGS:
        return False
    names = thing[1]
    if not is_path(names) or not LEAST_GROUPED <= len(names) <= MOST_OPTIONS:
        return False
    return are_unlike(names)


def own_name(kind):
    """The name of an own kind, or None of any other kind, and of no kind."""
    return kind[1] if kind is not None and kind[0] == "own" else None
