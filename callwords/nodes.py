"""Commands as they are read: what their parts come to, worked out once for each Grammar, and kept.

Options are numbered in their order. A set of them is a number: the bit of an option's number is set where it stands.
"""

from itertools import combinations

from callwords.commands import COMMANDS, FORM, GROUPS, KIND, MOST_OPTIONS, NAME, NEEDED, OPTIONS, PLACES, SHORT
from callwords.commands import own_name
from callwords.kinds import has_any


class Node:
    """A command at its path. What is asked of it again is kept; nothing that it tells ever changes.

    way is its path, place_parts are its places. owns and place_owns are the own words of each option's and place's
    kind; beneath are the Nodes of the commands beneath, by their names; needed is how many places need a worth.
    leads_free and leads_bare tell whether a line goes on behind the options to an end, with options open or closed;
    goes and goes_bare whether one does ahead of them.
    """

    def __init__(self, path, command, words, beneath):
        self.way = path
        self.options = command[OPTIONS]
        self.groups = command[GROUPS]
        self.place_parts = command[PLACES]
        self.beneath = beneath
        self.nothing = (None,) * len(self.options)
        self.numbers = {option[NAME]: number for number, option in enumerate(self.options)}
        self.letters = {part[SHORT]: number for number, part in enumerate(self.options) if part[SHORT] is not None}
        self.owns = [_own_words(option[KIND], words) for option in self.options]
        self.place_owns = [_own_words(place[1], words) for place in self.place_parts]
        self.fitting = _fitting(self.options, self.owns, self.groups, self.numbers)
        self.needed = len([times for _, _, times in self.place_parts if times in NEEDED])
        self.leads_free = self.leads_bare = self.has_worths()
        if beneath:
            self.leads_free = any([node.goes for node in beneath.values()])
            self.leads_bare = any([node.goes_bare for node in beneath.values()])
        self.goes = self.leads_free and len(self.fitting) > 0
        self.goes_bare = self.leads_bare and 0 in self.fitting
        self.known_fits = {}
        self.known_sets = None
        self.known_texts = None
        self.known_shortest = None
        self.known_rows = None
        self.known_form = None

    def has_worths(self):
        """Whether each place that needs a worth can have one."""
        return all([has_any(place[1], own) for place, own in zip(self.place_parts[:self.needed], self.place_owns)])

    def has_between(self, on, off):
        """Whether a set has all of on and none of off."""
        key = on + (off << MOST_OPTIONS)
        found = self.known_fits.get(key)
        if found is None:
            found = any([bits & on == on and bits & off == 0 for bits in self.fitting])
            self.known_fits[key] = found
        return found

    def sets(self):
        """The sets of options that may stand together, tuples of names, by how many, then by their numbers."""
        if self.known_sets is None:
            names, found = [option[NAME] for option in self.options], []
            for many in range(len(names) + 1):
                for numbers in combinations(range(len(names)), many):
                    if sum([1 << number for number in numbers]) in self.fitting:
                        found.append(tuple([names[number] for number in numbers]))
            self.known_sets = tuple(found)
        return self.known_sets

    def texts(self):
        """The beginnings that read: of options and of flags, dicts to their numbers, of commands, to their Nodes."""
        if self.known_texts is None:
            flags = [option[NAME] for option in self.options if option[FORM] == "flag"]
            commands = beginnings_of(list(self.beneath))
            options, flags = beginnings_of(list(self.numbers)), beginnings_of(flags)
            self.known_texts = (
                {text: self.numbers[options[text]] for text in options},
                {text: self.numbers[flags[text]] for text in flags},
                {text: self.beneath[commands[text]] for text in commands},
            )
        return self.known_texts

    def shortest(self):
        """The shortest beginnings that read, of options and of flags by their numbers, of commands by their paths."""
        if self.known_shortest is None:
            options, flags, commands = self.texts()
            self.known_shortest = (
                _shortest_texts(options), _shortest_texts(flags),
                _shortest_texts({text: commands[text].way for text in commands}),
            )
        return self.known_shortest


def _own_words(kind, words):
    """The own words of a kind, none of other kinds, and of no kind."""
    name = own_name(kind)
    return () if name is None else words[name]


def _fitting(options, owns, groups, numbers):
    """A dict of the sets for which all groups hold, each of whose options may stand at all."""
    dead = sum([1 << number for number, own in enumerate(owns) if _has_none(options[number][KIND], own)])
    found = [bits for bits in range(1 << len(options)) if bits & dead == 0]
    for word, names in groups:
        grouped = sum([1 << numbers[name] for name in names])
        first = 1 << numbers[names[0]]
        found = [bits for bits in found if _holds(word, grouped, first, bits & grouped)]
    return {bits: True for bits in found}


def _has_none(kind, own):
    """Whether an option's kind has no worth; where there is no kind none is needed."""
    return kind is not None and not has_any(kind, own)


def _holds(word, grouped, first, standing):
    """Whether a group holds where just these of its options stand."""
    if word == "with":
        return standing in (0, grouped)
    if word == "needs":
        return standing & first == 0 or standing == grouped
    # Without its lowest bit nothing is left of a set of one.
    return standing & (standing - 1) == 0 and (word == "most" or standing != 0)


def beginnings_of(names):
    """A dict, in Python's order, from each beginning of just one of the names, and each name, to the name."""
    owners = {}
    for name in names:
        for end in range(1, len(name)):
            text = name[:end]
            owners[text] = None if text in owners else name
    for name in names:
        owners[name] = name
    return {text: owners[text] for text in sorted(list(owners)) if owners[text] is not None}


def _shortest_texts(texts):
    """The shortest text of each thing to which one leads, of a dict in Python's order."""
    found = {}
    for text, thing in texts.items():
        # Beginnings of one name stand in the order of their lengths.
        found[thing] = found.get(thing, text)
    return found


def nodes_of(commands, words):
    """A dict from paths to Nodes, of one to commands and one from own names to words."""
    found = {}
    for path in reversed(list(commands)):
        beneath = {below[NAME]: found[path + (below[NAME],)] for below in commands[path][COMMANDS]}
        found[path] = Node(path, commands[path], words, beneath)
    return found
