"""The tests' own reader and searches, made by trying: nothing here asks the package."""

import functools
import itertools
import string

from samples import own_words

LETTERS = string.ascii_lowercase
LIMITS = {"flag": 1, "one": 1, "count": 9, "many": 6}


def tried_sets(node):
    """All sets of a command's options that hold for all groups, by trying each subset."""
    options = node[1]
    found = []
    for bits in itertools.product([0, 1], repeat=len(options)):
        names = [option[0] for option, bit in zip(options, bits) if bit]
        dead = [option for option, bit in zip(options, bits) if bit and option[3] and option[3][0] == "own"
                and own_words(option[3]) == []]
        if not dead and all(tried_group(group, names) for group in node[3]):
            found.append((len(names), [at for at, bit in enumerate(bits) if bit], tuple(names)))
    return [names for _, _, names in sorted(found)]


def tried_group(group, names):
    """Whether a group holds."""
    inside = set(group[1]) & set(names)
    return {
        "just": len(inside) == 1,
        "most": len(inside) < 2,
        "with": inside in (set(), set(group[1])),
        "needs": group[1][0] not in inside or inside == set(group[1]),
    }[group[0]]


def begun_names(names):
    """Each text and the one name that it reads to."""
    found = {}
    for name in names:
        for end in range(1, 9):
            text = name[:end]
            meant = [other for other in names if other == text] or [other for other in names if other.startswith(text)]
            if len(meant) == 1:
                found[text] = meant[0]
    return found


def tried_worth(kind, word):
    """The worth of a word, in a tuple, or None."""
    if kind[0] == "number":
        numbers = {str(number): number for number in range(kind[1], kind[2] + 1)}
        return (numbers[word],) if word in numbers else None
    if kind[0] == "one":
        fits = word in kind[1]
    elif kind[0] == "name":
        fits = 0 < len(word) < 9 and set(word) <= set(LETTERS)
    elif kind[0] == "text":
        fits = len(word) <= kind[1]
    else:
        fits = word in own_words(kind)
    return (word,) if fits else None


class Walk:
    """A reader that goes word by word and tells False where a word isn't taken."""

    def __init__(self, root):
        self.nodes = [root]
        self.given = [{}]
        self.worths = []
        self.closed = False
        self.waiting = None

    def copy(self):
        new = Walk(self.nodes[0])
        new.nodes = list(self.nodes)
        new.given = [{name: list(worths) for name, worths in given.items()} for given in self.given]
        new.worths = list(self.worths)
        new.closed, new.waiting = self.closed, self.waiting
        return new

    def option(self, name):
        return [option for option in self.nodes[-1][1] if option[0] == name][0]

    def give(self, name, worth):
        had = self.given[-1].setdefault(name, [])
        had.append(worth)
        return len(had) <= LIMITS[self.option(name)[2]]

    def take(self, word):
        if self.waiting:
            worth = tried_worth(self.option(self.waiting)[3], word)
            name, self.waiting = self.waiting, None
            return worth is not None and self.give(name, worth[0])
        if not self.closed and (word[:2] == "--" or word[:1] == "-" and word[1:2] in set(LETTERS)):
            if word == "--":
                self.closed = True
                return True
            return self.take_long(word[2:]) if word[:2] == "--" else self.take_letters(word[1:])
        beneath = {node[0]: node for node in self.nodes[-1][4]}
        if beneath:
            name = begun_names(list(beneath)).get(word)
            if name:
                self.nodes.append(beneath[name])
                self.given.append({})
            return name is not None
        return self.take_place(word)

    def named(self, name):
        if self.option(name)[2] in ("flag", "count"):
            return self.give(name, 1)
        self.waiting = name
        return len(self.given[-1].get(name, [])) < LIMITS[self.option(name)[2]]

    def take_long(self, word):
        options = self.nodes[-1][1]
        if word.startswith("no-"):
            name = begun_names([option[0] for option in options if option[2] == "flag"]).get(word[3:])
            return name is not None and self.give(name, 0)
        text, *rest = word.split("=", 1)
        name = begun_names([option[0] for option in options]).get(text)
        if name is None or not self.named(name):
            return False
        if rest:
            return self.waiting is not None and self.take(rest[0])
        return True

    def take_letters(self, word):
        for at, letter in enumerate(word):
            names = [option[0] for option in self.nodes[-1][1] if option[1] == letter]
            if not names or not self.named(names[0]):
                return False
            if self.waiting:
                return self.take(word[at + 1:]) if word[at + 1:] else True
        return True

    def take_place(self, word):
        places = self.nodes[-1][2]
        for at, (_, kind, times) in enumerate(places):
            most = 30 if times in ("rest", "some") else 1
            if at == len(places) - 1 or len(self.worths) <= at:
                if len(self.worths) - at >= most:
                    return False
                worth = tried_worth(kind, word)
                if worth is not None:
                    self.worths.append(worth[0])
                return worth is not None
        return False

    def standing(self, level):
        given = self.given[level]
        return tuple(option[0] for option in self.nodes[level][1] if given.get(option[0]) not in (None, [0]) or
                     option[2] != "flag" and option[0] in given)

    def is_whole(self):
        if self.waiting or self.nodes[-1][4]:
            return False
        need = [place for place in self.nodes[-1][2] if place[2] in ("one", "some")]
        if len(self.worths) < len(need):
            return False
        return all(self.standing(level) in sets_of(node) for level, node in enumerate(self.nodes))

    def reading(self):
        rows = []
        for node, given in zip(self.nodes, self.given):
            row = []
            for name, _, form, *_ in node[1]:
                if name in given:
                    worths = given[name]
                    row.append((name, {"flag": worths[0], "one": worths[0], "count": len(worths),
                                       "many": tuple(worths)}[form]))
            rows.append(tuple(row))
        places = []
        for at, (name, _, times) in enumerate(self.nodes[-1][2]):
            if len(self.worths) > at:
                places.append((name, tuple(self.worths[at:]) if times in ("rest", "some") else self.worths[at]))
        return tuple(node[0] for node in self.nodes[1:]), tuple(rows), tuple(places)

    def key(self):
        """All that tells whether a line can be ended: which options stand, not how often, and up to five worths."""
        given = tuple((self.standing(level), tuple(sorted(given))) for level, given in enumerate(self.given))
        return tuple(node[0] for node in self.nodes), given, min(len(self.worths), 5), self.closed, self.waiting


@functools.lru_cache(maxsize=None)
def sets_of(node):
    """The sets of a command, kept."""
    return frozenset(tried_sets(node))


def walked(root, words):
    """The Walk behind words, or None where one of them isn't taken."""
    walk = Walk(root)
    for word in words:
        if not walk.take(word):
            return None
    return walk


def tried_reading(root, words):
    """The reading of words, or None."""
    walk = walked(root, words)
    return walk.reading() if walk and walk.is_whole() else None


def worth_words(kind):
    """Some words of a kind: all of them where they are few."""
    if kind[0] == "number":
        return [str(number) for number in range(kind[1], kind[2] + 1)]
    if kind[0] == "one":
        return list(kind[1])
    if kind[0] == "name":
        return ["a", "zz"]
    if kind[0] == "text":
        return ["", "a", "-", "=", " "]
    return own_words(kind)


def all_nodes(node):
    """A command and all beneath it."""
    return [node] + [deeper for below in node[4] for deeper in all_nodes(below)]


@functools.lru_cache(maxsize=None)
def vocabulary(root):
    """Words that may come somewhere: names, letters, worths joined and alone."""
    words = {"--"}
    for node in all_nodes(root):
        for name, short, form, kind, *_ in node[1]:
            heads = ["--" + name[:end] for end in range(2, len(name) + 1)] + ["--" + name[:1]]
            words.update(heads)
            if form == "flag":
                words.update("--no-" + name[:end] for end in range(1, len(name) + 1))
            if short:
                words.add("-" + short)
            if kind:
                words.update(head + "=" + word for head in heads for word in worth_words(kind))
                words.update("-" + short + word for word in worth_words(kind) if short)
                words.update(worth_words(kind))
        for _, kind, _ in node[2]:
            words.update(worth_words(kind))
        for below in node[4]:
            words.update(below[0][:end] for end in range(1, len(below[0]) + 1))
    return sorted(words)


@functools.lru_cache(maxsize=None)
def few_words(root):
    """A vocabulary of which each thing that may come has one word."""
    words = {"--"}
    for node in all_nodes(root):
        for name, _, form, kind, *_ in node[1]:
            words.update(["--" + name] + ["--no-" + name] * (form == "flag"))
            words.update(worth_words(kind)[:1] if kind else [])
        for _, kind, _ in node[2]:
            words.update(worth_words(kind))
        words.update(below[0] for below in node[4])
    return sorted(words)


@functools.lru_cache(maxsize=None)
def live_keys(root):
    """The keys of all Walks from which some list that reads can be gone on to."""
    start = Walk(root)
    coming, came, ends = [start], {start.key(): []}, []
    while coming:
        walk = coming.pop()
        if walk.is_whole():
            ends.append(walk.key())
        for word in few_words(root):
            further = walk.copy()
            if further.take(word):
                if further.key() not in came:
                    came[further.key()] = []
                    coming.append(further)
                came[further.key()].append(walk.key())
    live, coming = set(ends), list(ends)
    while coming:
        for key in came[coming.pop()]:
            if key not in live:
                live.add(key)
                coming.append(key)
    return live


def is_live(root, walk):
    """Whether some list that reads goes this way."""
    return walk is not None and walk.key() in live_keys(root)


@functools.lru_cache(maxsize=None)
def endings(root):
    """All that may be left of a worth's word."""
    return sorted({word[at:] for word in vocabulary(root) for at in range(len(word) + 1)})


def tried_open(root, words, begun):
    """Whether some list that reads goes on with a word so begun."""
    walk = walked(root, words)
    if walk is None:
        return False
    candidates = {word for word in vocabulary(root) if word.startswith(begun)} | {begun + end for end in endings(root)}
    for word in sorted(candidates):
        further = walk.copy()
        if further.take(word) and is_live(root, further):
            return True
    return False


def tried_wanted(root, words):
    """What may come next, in the told order."""
    walk = walked(root, words)
    if walk is None:
        return []
    node, found = walk.nodes[-1], []
    if walk.waiting:
        kind = walk.option(walk.waiting)[3]
        return [kind] if goes_with(root, walk, worth_words(kind)) else []
    if not walk.closed:
        for name, short, form, *_ in node[1]:
            found += ["--" + name] + ([] if short is None else ["-" + short]) + ["--no-" + name] * (form == "flag")
        found.append("--")
    found = [word for word in found + [below[0] for below in node[4]] if goes_with(root, walk, [word])]
    kinds = [place[1] for place in node[2]][len(walk.worths):] or [place[1] for place in node[2]][-1:]
    if kinds:
        words = [word for word in worth_words(kinds[0]) if walk.closed or word[:2] != "--"
                 and not (word[:1] == "-" and word[1:2] in set(LETTERS))]
        found += kinds[:1] * goes_with(root, walk, words)
    return found


def goes_with(root, walk, words):
    """Whether one of these words leads on."""
    for word in words:
        further = walk.copy()
        if further.take(word) and is_live(root, further):
            return True
    return False


def tried_wrong(root, words):
    """The fields at, sign, words of what is no reading."""
    at = 0
    while at < len(words) and is_live(root, walked(root, words[:at + 1])):
        at += 1
    if at == 0 and not is_live(root, Walk(root)):
        return 0, 0, ()
    if at == len(words):
        return at, 0, tuple(tried_wanted(root, words))
    sign = 0
    while sign < len(words[at]) and tried_open(root, words[:at], words[at][:sign + 1]):
        sign += 1
    return at, sign, tuple(tried_wanted(root, words[:at]))
