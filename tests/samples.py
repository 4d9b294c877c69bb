"""Grammars that the tests ask about, made of short helpers, and a maker of small ones by numbers."""

import random

from callwords.grammars import Grammar


def flag(name, short=None, default=0, source=None):
    """A flag."""
    return (name, short, "flag", None, default, False, source)


def count(name, short=None, default=0, source=None):
    """A count."""
    return (name, short, "count", None, default, False, source)


def one(name, kind, short=None, default=None, need=False, source=None):
    """An option with one worth."""
    return (name, short, "one", kind, default, need, source)


def many(name, kind, short=None, default=(), source=None):
    """An option with many worths."""
    return (name, short, "many", kind, default, False, source)


def command(name, options=(), places=(), groups=(), commands=()):
    """A command."""
    return (name, tuple(options), tuple(places), tuple(groups), tuple(commands))


NUMBER = ("number", -3, 12)
COLOR = ("one", ("red", "green", "grey"))
NAME = ("name",)
TEXT = ("text", 5)
SIZE = ("own", "size")
NONE = ("own", "none")
ODD = ("own", "odd")

# Own words of which some are like options, and one name without words.
OWN_WORDS = {
    "size": ["big", "small"], "none": [], "odd": ["-x", "--", "--size=1", "-1"], "dash": ["-a", "--b"],
    "full": ["", "w" * 20][1:],
}
OWN = {name: (lambda words=words: list(words)) for name, words in OWN_WORDS.items()}


def tool():
    """Three levels, all forms, kinds and groups."""
    return command(
        "tool",
        [flag("loud", "l", source="noise"), one("size", NUMBER, "s", 4, source="size"), count("level", "v", 1)],
        commands=[
            command(
                "put",
                [many("tag", TEXT, "t"), count("times", "n"), flag("force", "f", 1), flag("fast"), one("to", SIZE)],
                [("what", NAME, "one"), ("where", ODD, "maybe"), ("more", ("text", 20), "rest")],
                [("most", ("force", "fast")), ("needs", ("tag", "times"))],
            ),
            command(
                "pull",
                [one("color", COLOR, "c", need=True, source="color"), one("colder", NONE), flag("no")],
                groups=[("just", ("color", "no", "colder"))],
                commands=[
                    command("list", [many("by", ODD, "b", ("-x",)), flag("all", "a")],
                            [("rows", NUMBER, "some")], [("with", ("by", "all"))]),
                    command("lists", places=[("row", NAME, "one")]),
                    command("none", places=[("row", NONE, "one")]),
                ],
            ),
            command("purge"),
        ],
    )


ROOTS = {
    "bare": command("bare"),
    "places": command("cp", places=[("one", NAME, "one"), ("two", COLOR, "one"), ("few", NUMBER, "maybe"),
                                    ("rest", TEXT, "rest")]),
    "some": command("rm", [flag("force", "f")], [("files", ODD, "some")]),
    "dash": command("dd", [flag("go", "g"), flag("gone")], [("in", ("own", "dash"), "maybe"), ("out", NONE, "rest")]),
    "shut": command("no", [flag("on", "o"), flag("off", "p")],
                    groups=[("just", ("on", "off")), ("with", ("on", "off"))]),
    "letters": command("let", [count("aa", "a"), count("ab", "b"), flag("abc", "c"), many("abd", TEXT, "d"),
                               one("e" * 8, NUMBER, "e")],
                       [("rest", NUMBER, "rest")]),
    "tool": tool(),
}


def grammar(name):
    """A Grammar of one of the roots."""
    return Grammar(ROOTS[name], own=OWN)


def own_words(kind):
    """The own words of a kind in these tests."""
    return list(OWN_WORDS[kind[1]]) if kind[0] == "own" else []


NAMES = ["on", "off", "one", "no", "none", "size", "si", "level", "let", "force"]
KINDS = [("number", 0, 1), ("number", -12, 12), ("number", 9, 101), COLOR, NAME, ("text", 1), ("text", 3), SIZE, NONE,
         ODD]
SMALL_KINDS = [("number", 0, 1), ("number", 9, 11), ("one", ("a", "ab")), SIZE, ODD, NONE, ("text", 1)]


def made(number, *, most=3, kinds=KINDS, levels=2):
    """A root made by a number: always the same one."""
    chance = random.Random(number)
    return made_command(chance, chance.choice(NAMES), most, kinds, levels)


def made_command(chance, name, most, kinds, levels):
    """A command made by chance."""
    names = chance.sample(NAMES, 10)
    letters = chance.sample("abcdefgh", 8)
    options = [made_option(chance, names.pop(), letters.pop(), kinds) for _ in range(chance.randint(0, most))]
    groups = []
    for _ in range(chance.choice([0, 0, 1, 2]) if len(options) > 1 else 0):
        grouped = chance.sample([option[0] for option in options], chance.randint(2, len(options)))
        groups.append((chance.choice(["just", "most", "with", "needs"]), tuple(grouped)))
    if levels and chance.random() < 0.5:
        beneath = [made_command(chance, names.pop(), most, kinds, levels - 1) for _ in range(chance.randint(1, 2))]
        return command(name, options, (), groups, beneath)
    return command(name, options, made_places(chance, names, kinds), groups)


def made_option(chance, name, letter, kinds):
    """An option made by chance."""
    short = chance.choice([letter, letter, None])
    form = chance.choice(["flag", "flag", "count", "one", "many"])
    source = chance.choice([None, "room", name])
    if form in ("flag", "count"):
        return (name, short, form, None, chance.randint(0, 1), False, source)
    kind = chance.choice(kinds)
    if form == "many":
        return many(name, kind, short, (), source)
    return one(name, kind, short, None, chance.random() < 0.3, source)


def made_places(chance, names, kinds):
    """Places made by chance."""
    times = ["one"] * chance.choice([0, 0, 1, 1, 2])
    if chance.random() < 0.3:
        times.append("some")
    else:
        times += ["maybe"] * chance.choice([0, 0, 1]) + ["rest"] * chance.choice([0, 1])
    return [(names.pop(), chance.choice(kinds), word) for word in times]


def led(chance, root, most, vocabulary, walk, is_live):
    """Words, made by chance, that begin a list that reads."""
    words = []
    for _ in range(chance.randint(0, most)):
        found = []
        for word in chance.sample(vocabulary, min(len(vocabulary), 30)):
            further = walk.copy()
            if further.take(word) and is_live(root, further):
                found.append((word, further))
        if not found:
            break
        word, walk = chance.choice(found)
        words.append(word)
    return words


def put_otherwise(chance, words):
    """Words of which one is left out, twice, or with a sign otherwise, or two are exchanged, or none of these."""
    words, how = list(words), chance.randint(0, 5)
    if words and how:
        at = chance.randrange(len(words))
        sign = chance.randint(0, len(words[at]))
        if how == 1:
            del words[at]
        elif how == 2:
            words.insert(at, words[at])
        elif how == 3:
            words[at] = words[at][:sign] + chance.choice("-=abno1 ") + words[at][sign + 1:]
        elif how == 4:
            words[at] = words[at][:sign] + chance.choice("-=abno1 ") + words[at][sign:]
        else:
            other = chance.randrange(len(words))
            words[at], words[other] = words[other], words[at]
    return words
