"""Changes made by chance, and the tests' own way to lead a Call over them."""

from callwords.grammars import Grammar
from samples import NAMES, OWN, SMALL_KINDS, made_option, own_words


def made_change(chance, told):
    """A change made by chance, of a form that fits the Grammar mostly."""
    path = chance.choice(told.paths())
    name, options, places, _, beneath = told.command(path)
    how = chance.choice(["rename", "command", "letter", "gone", "default", "more", "kind"])
    named = [option[0] for option in options] + [place[0] for place in places] + ["nosuch"]
    if how == "command":
        return how, path, chance.choice([below[0] for below in beneath] + ["nosuch"]), chance.choice(NAMES)
    if how == "more":
        option = made_option(chance, chance.choice(NAMES), chance.choice("xyz"), SMALL_KINDS)
        return how, path, option[:5] + (False,) + option[6:]
    one = chance.choice(named)
    if how == "rename":
        return how, path, one, chance.choice(NAMES)
    if how == "letter":
        return how, path, one, chance.choice(["x", "y", None])
    if how == "gone":
        return how, path, one
    if how == "kind":
        return how, path, one, chance.choice(SMALL_KINDS)
    return how, path, one, made_default(chance, options, one)


def made_default(chance, options, name):
    """A default made by chance for the option of a name."""
    for option in options:
        if option[0] == name and option[2] in ("flag", "count"):
            return chance.randint(0, 1)
        if option[0] == name:
            words = some_worths(option[3])
            worths = tuple(chance.choice(words) for _ in range(chance.randint(0, 2))) if words else ()
            return worths if option[2] == "many" else (worths + (None,))[0]
    return 0


def some_worths(kind):
    """Some worths of a kind."""
    if kind[0] == "number":
        return [kind[1], kind[2]]
    if kind[0] == "own":
        return own_words(kind)
    return list(kind[1]) if kind[0] == "one" else ["a", "b"]


def call_led(call, told, changes, changed):
    """What a Call is told as behind changes, by asking where each thing is behind each change: path, worths, places."""
    path, places = call.path(), call.places()
    worths = {(where, name): worth for where, name, worth in call.worths()}
    for change in changes:
        how, where, name = change[:3]
        if how == "command":
            def moved(old):
                return old[:len(where)] + (change[3],) + old[len(where) + 1:] if old[:len(where) + 1] == where + (
                    name,) else old
            worths = {(moved(at), one): worth for (at, one), worth in worths.items()}
            path = moved(path)
        elif how == "gone":
            worths.pop((where, name), None)
        elif how == "more" and path[:len(where)] == where:
            worths[where, name[0]] = name[4]
        elif how == "rename":
            if (where, name) in worths:
                worths[where, change[3]] = worths.pop((where, name))
            places = [(change[3] if (where, one) == (path, name) else one, worth) for one, worth in places]
        told = changed(told, [change])
    return path, worths, places


def small_grammar(chance, made, number):
    """A small Grammar made by a number."""
    return Grammar(made(number, most=3, kinds=SMALL_KINDS, levels=chance.choice([0, 1, 1])), own=OWN)
