"""Points 4, 5 and 31 to 35: what is fit to be a Grammar, what it tells, which options stand together, what is begun."""

import itertools
import re
import unittest

from callwords import grammars
from callwords.errors import NoGrammar, NoKind, NoList, NoOwn, NotThere, NoWord, Unfit
from callwords.grammars import Grammar, command_words, fits_some, flag_words, goes, goes_bare, option_words, sets
from callwords.kinds import default_fits
from samples import NAME, NONE, NUMBER, ODD, OWN, OWN_WORDS, ROOTS, SIZE, TEXT
from samples import command, count, flag, grammar, made, many, one, tool
from things import ANY_THINGS, BAD_KINDS, GOOD_KINDS, Refusals, anew
from trying import begun_names, tried_sets

# Every question of a Grammar and a path.
ASKING = [
    lambda grammar, path: sets(grammar, path),
    lambda grammar, path: fits_some(grammar, path, (), ()),
    lambda grammar, path: command_words(grammar, path),
    lambda grammar, path: option_words(grammar, path),
    lambda grammar, path: flag_words(grammar, path),
    lambda grammar, path: goes_bare(grammar, path),
    lambda grammar, path: goes(grammar, path),
]

BAD_OPTIONS = [
    (), ("go",), ("go", None, "flag", None, 0, False), ("go", None, "flag", None, 0, False, None, None),
    ["go", None, "flag", None, 0, False, None],
    ("g", None, "flag", None, 0, False, None), ("goesonto" + "o", None, "flag", None, 0, False, None),
    ("Go", None, "flag", None, 0, False, None), (5, None, "flag", None, 0, False, None), (None,) * 7, (["go"],) * 7,
    ("go", "gg", "flag", None, 0, False, None), ("go", "G", "flag", None, 0, False, None),
    ("go", "", "flag", None, 0, False, None), ("go", False, "flag", None, 0, False, None),
    ("go", ["g"], "flag", None, 0, False, None),
    ("go", None, "Flag", None, 0, False, None), ("go", None, None, None, 0, False, None),
    ("go", None, ["flag"], None, 0, False, None),
    ("go", None, {}, None, 0, False, None),
    ("go", None, "flag", NAME, 0, False, None), ("go", None, "count", NAME, 0, False, None),
    ("go", None, "flag", (), 0, False, None),
    ("go", None, "one", None, None, False, None), ("go", None, "many", None, (), False, None),
    ("go", None, "one", ("text", 21), None, False, None), ("go", None, "many", ["name"], (), False, None),
    ("go", None, "flag", None, 0, 0, None), ("go", None, "flag", None, 0, None, None),
    ("go", None, "flag", None, 0, "no", None),
    ("go", None, "flag", None, 0, True, None), ("go", None, "count", None, 0, True, None),
    ("go", None, "many", NAME, (), True, None),
    ("go", None, "flag", None, None, True, None), ("go", None, "one", NAME, "a", True, None),
    ("go", None, "one", NAME, 5, True, None),
    ("go", None, "one", NAME, (), True, None), ("go", None, "one", NAME, False, True, None),
    ("go", None, "flag", None, 0, False, ""), ("go", None, "flag", None, 0, False, "A"),
    ("go", None, "flag", None, 0, False, 5),
    ("go", None, "flag", None, 0, False, False), ("go", None, "flag", None, 0, False, ("a",)),
]
BAD_PLACES = [
    (), ("in",), ("in", NAME), ("in", NAME, "one", None), ["in", NAME, "one"], ("", NAME, "one"), ("In", NAME, "one"),
    (5, NAME, "one"), ("in", None, "one"), ("in", ("names",), "one"), ("in", ["name"], "one"), ("in", NAME, "two"),
    ("in", NAME, None), ("in", NAME, ["one"]), ("in", NAME, {}), ("in", "one", NAME), "in",
]
BAD_GROUPS = [
    (), ("just",), ("just", ("aa", "bb"), ()), ["just", ("aa", "bb")], ("all", ("aa", "bb")), (None, ("aa", "bb")),
    (["just"], ("aa", "bb")), ("just", ["aa", "bb"]), ("just", "aa"), ("just", ("aa",)), ("just", ()),
    ("just", ("aa", "aa")), ("just", ("aa", "bb", "aa")), ("just", tuple("abcdefg")), ("just", ("aa", 5)),
    ("just", ("aa", "B")), ("just", ("aa", ["bb"])), ("just", ("aa", "")), (("aa", "bb"), "just"),
]
ALL_TIMES = [times for many in range(5) for times in itertools.product(("one", "maybe", "rest", "some"), repeat=many)]
# Which places may stand in this order, by their first letters.
PLACE_ORDERS = [times for times in ALL_TIMES if re.fullmatch("o*(m*r?|s)", "".join([word[0] for word in times]))]


def unlike(prefix, how_many):
    """So many unlike names."""
    return [prefix + letter for letter in "abcdefghijklm"[:how_many]]


def bad_commands():
    """Things that begin with a name, and are no commands by their form."""
    fine = ("go", (), (), (), ())
    found = [("go",), fine[:4], fine + ((),)]
    for at in range(1, 5):
        for thing in ([], {}, None, "", 0, "go", True):
            found.append(fine[:at] + (thing,) + fine[at + 1:])
        for thing in (None, "aa", (), 5):
            if at < 4:
                found.append(fine[:at] + ((thing,),) + fine[at + 1:])
    found += [command("go", [flag("aa"), option]) for option in BAD_OPTIONS]
    found += [command("go", places=[("a", NAME, "one"), place]) for place in BAD_PLACES]
    found += [command("go", [flag("aa"), flag("bb")], groups=[("just", ("aa", "bb")), group]) for group in BAD_GROUPS]
    found.append(command("go", [flag(name) for name in unlike("a", 7)]))
    found.append(command("go", places=[(name, NAME, "one") for name in unlike("a", 5)]))
    found.append(command("go", [flag("aa"), flag("bb")], groups=[("just", ("aa", "bb"))] * 5))
    found.append(command("go", commands=[command(name) for name in unlike("a", 7)]))
    found.append(command("go", places=[("in", NAME, "maybe")], commands=[command("a")]))
    for times in ALL_TIMES:
        if times not in PLACE_ORDERS:
            found.append(command("go", places=list(zip(unlike("a", 4), [NAME] * 4, times))))
    return found


def put_at(thing, places, other):
    """A tuple with another thing at a place within it, told by its numbers."""
    if not places:
        return other
    return thing[:places[0]] + (put_at(thing[places[0]], places[1:], other),) + thing[places[0] + 1:]


def places_in(thing, places=()):
    """All places within a tuple, by their numbers, with what stands there."""
    yield places, thing
    if isinstance(thing, tuple):
        for at, part in enumerate(thing):
            yield from places_in(part, places + (at,))


def where_in(root, places):
    """The path of the command that has a place, the numbers of the place within it, and those of the command."""
    path, ahead, node = (), (), root
    while len(places) > 1 and places[0] == 4:
        node, ahead, places = node[4][places[1]], ahead + places[:2], places[2:]
        path += (node[0],)
    return path, places, ahead


class Fits(Refusals):
    """Tests of roots that fit, or don't."""

    def assert_unfit(self, root, where, why, found, own=None):
        """Unfit with just these fields; a thing of a wrong form is the very thing."""
        before = repr(root)
        with self.assertRaises(Unfit) as caught:
            Grammar(root, own=own)
        self.assertIs(type(caught.exception), Unfit)
        self.assertEqual(list(vars(caught.exception)), ["where", "why", "found"])
        self.assertEqual(caught.exception.why, why, root)
        self.assert_same(caught.exception.where, where)
        self.assert_same(caught.exception.found, found)
        if why in ("form", "group"):
            self.assertIs(caught.exception.found, found)
        self.assertEqual(repr(root), before)


class OwnTests(Fits):
    """Point 31: own tables."""

    def test_31_what_is_no_dict_from_names_is_refused_ahead_of_the_root(self):
        for thing in [thing for thing in ANY_THINGS if thing is not None and thing != {} and thing != {"a": "b"}]:
            self.assert_refuses_found(NoOwn, thing, Grammar, "no root", own=thing)
        for thing in ({"A": list}, {"": list}, {"a": list, 5: list}, {("a",): list}, {None: list}, {"abcdefghi": list}):
            self.assert_refuses_found(NoOwn, thing, Grammar, ROOTS["bare"], own=thing)

    def test_31_what_names_lead_to_is_not_looked_at(self):
        for thing in ANY_THINGS:
            self.assertEqual(len(Grammar(ROOTS["bare"], own={"a": thing, "abcdefgh": None})), 1)

    def test_31_none_where_it_is_left_out(self):
        self.assertEqual(Grammar(ROOTS["bare"]), Grammar(ROOTS["bare"], own={}))
        self.assertEqual(Grammar(ROOTS["bare"], own=None), Grammar(root=ROOTS["bare"]))
        self.assert_unfit(command("a", [one("go", SIZE)]), (), "own", "size")

    def test_6_own_goes_by_its_name_alone(self):
        with self.assertRaises(TypeError):
            Grammar(ROOTS["bare"], {})

    def test_7_the_table_is_kept_as_a_copy(self):
        table = dict(OWN)
        told = Grammar(ROOTS["some"], own=table)
        table.clear()
        self.assertEqual(told.own_words(ODD), OWN_WORDS["odd"])
        self.assertEqual(told.own_words(SIZE), OWN_WORDS["size"])
        self.assertEqual(told.with_root(ROOTS["tool"]), grammar("tool"))

    def test_31_defs_tell_lists_or_tuples_anew_or_the_same(self):
        kept = ["big", "small"]
        for ask in (lambda: kept, lambda: ["big", "small"], lambda: ("big", "small")):
            told = Grammar(command("a", [one("go", SIZE, default="big")]), own={"size": ask})
            self.assert_same(told.own_words(SIZE), ["big", "small"])
            told.own_words(SIZE).append("huge")
            self.assert_same(told.own_words(SIZE), ["big", "small"])
        self.assertEqual(kept, ["big", "small"])


class FormTests(Fits):
    """Points 4, 5 and 31: what is a command by its form."""

    def test_31_any_thing_as_a_root(self):
        for thing in ANY_THINGS + [Grammar(ROOTS["bare"]), [ROOTS["bare"]], list(ROOTS["bare"])]:
            self.assert_unfit(thing, (), "form", thing)

    def test_31_bad_forms_of_a_root_and_beneath_one(self):
        for thing in bad_commands():
            self.assert_unfit(thing, (), "form", thing)
            self.assert_unfit(command("a", commands=[command("b"), thing]), ("go",), "form", thing)
            deeper = command("a", commands=[command("b", commands=[thing]), command("go")])
            self.assert_unfit(deeper, ("b", "go"), "form", thing)

    def test_31_what_begins_with_no_name_is_at_the_path_above(self):
        for thing in [None, True, 5, "go", "", [], {}, (), ["go", (), (), (), ()], ("Go", (), (), (), ()),
                      (("go",), (), (), (), ()), (5,)]:
            self.assert_unfit(command("a", commands=[command("b"), thing]), (), "form", thing)
            self.assert_unfit(command("a", commands=[command("b", commands=[thing])]), ("b",), "form", thing)

    def test_31_where_a_form_is_wrong_nothing_beneath_is_looked_at(self):
        thing = ("go", (), (), (("all", ()),), (None, ("b",)))
        self.assert_unfit(command("a", commands=[thing, None]), ("go",), "form", thing)

    def test_5_orders_of_places(self):
        for times in PLACE_ORDERS:
            places = list(zip(unlike("a", 4), [NAME, NUMBER, TEXT, ("one", ("a",))], times))
            self.assertEqual(Grammar(command("a", places=places)).root()[2], tuple(places))

    def test_4_all_forms_and_kinds_fit(self):
        own = {"a": lambda: ["x"], "sizesize": lambda: [], "name": list, "number": list, "text": list, "one": list,
               "own": list}
        for kind in GOOD_KINDS:
            for option in (one("go", kind, "g", need=True, source="g"), one("go", kind), many("go", kind),
                           many("goesonto", kind, "z")):
                root = command("a", [option], [("a", kind, "one")])
                self.assertIs(Grammar(root, own=own).root(), root)
        for kind in BAD_KINDS:
            for root in (command("a", [one("go", kind)]), command("a", [many("go", kind)]),
                         command("a", places=[("in", kind, "one")])):
                self.assert_unfit(root, (), "form", root)

    def test_4_and_5_the_most_that_fits(self):
        options = [flag(name, name[1]) for name in unlike("a", 6)]
        names = tuple(unlike("a", 6))
        groups = [("most", names), ("with", names), ("needs", names), ("most", names[:2])]
        places = [(name, NAME, "one") for name in unlike("b", 4)]
        self.assertEqual(len(Grammar(command("a", options, places, groups))), 1)
        self.assertEqual(len(Grammar(command("a", options, (), groups, [command(name) for name in unlike("b", 6)]))), 7)

    def test_5_a_name_may_be_that_of_an_option_elsewhere(self):
        beneath = command("a", [flag("aa", "a")], [("a", NAME, "one")])
        root = command("a", [flag("aa", "a"), flag("bb", "b")], groups=[("just", ("bb", "aa"))] * 2,
                       commands=[beneath, command("aa")])
        self.assertEqual(len(Grammar(root)), 3)


class UnfitTests(Fits):
    """Point 31: one thing otherwise."""

    def test_31_one_thing_otherwise_at_each_place(self):
        root, tried = tool(), 0
        for places, thing in places_in(root):
            for other in (NoWord("a"), {}, None, True, "A b", 1000000, ()):
                if type(other) is type(thing) and other == thing:
                    continue
                tried += self.assert_otherwise(root, places, other)
        self.assertGreater(tried, 1400)

    def assert_otherwise(self, root, places, other):
        """A root with another thing at a place is unfit there, where the thing is of no use at the place."""
        path, within, ahead = where_in(root, places)
        new = put_at(root, places, other)
        found = new
        for at in ahead:
            found = found[at]
        if within[:1] == (4,):
            if other != ():
                self.assert_unfit(new, path, "form", found, own=OWN)
            return other != ()
        if within in ((), (0,)):
            self.assert_unfit(new, path[:-1], "form", found, own=OWN)
            return True
        if within in ((1,), (2,), (3,)) and other == ():
            return False
        if within[0] == 1 and within[2:] in ((1,), (6,)) and other is None:
            return False
        if within[0] == 1 and within[2:] == (5,) and other is True and found[1][within[1]][2] == "one":
            return False
        if within[0] == 1 and within[2:3] == (4,):
            option = found[1][within[1]]
            # Any word fits as the default of an own kind, where the own words themselves aren't looked at.
            if default_fits(option[2], option[3], other) and not (option[3][0] == "own" and other == "A b"):
                return False
            self.assert_unfit(new, path, "form" if option[5] else "default", found if option[5] else option[0], own=OWN)
            return True
        self.assert_unfit(new, path, "form", found, own=OWN)
        return True

    def test_31_another_name_at_each_place(self):
        root = tool()
        for places, thing in places_in(root):
            path, within, ahead = where_in(root, places)
            if within[:1] == (3,) and len(within) == 4:
                new = put_at(root, places, "lacks")
                found = new
                for at in ahead + within[:2]:
                    found = found[at]
                self.assert_unfit(new, path, "group", found, own=OWN)
            if within and within[-1] == 1 and len(within) > 2 and thing in OWN_WORDS:
                self.assert_unfit(put_at(root, places, "lacks"), path, "own", "lacks", own=OWN)

    def test_31_names_twice(self):
        self.assert_unfit(command("a", [flag("aa"), count("bb"), flag("aa"), flag("bb")]), (), "twice", "aa")
        self.assert_unfit(command("a", [flag("bb"), flag("aa"), count("aa"), flag("bb")]), (), "twice", "aa")
        self.assert_unfit(command("a", [flag("aa")], [("b", NAME, "one"), ("aa", NAME, "one")]), (), "twice", "aa")
        self.assert_unfit(command("a", [], [("b", NAME, "one"), ("b", NAME, "rest")]), (), "twice", "b")
        self.assert_unfit(command("a", [flag("aa"), flag("bb"), flag("bb")], [("aa", NAME, "one")]), (), "twice", "bb")

    def test_31_letters_twice(self):
        self.assert_unfit(command("a", [flag("aa", "x"), flag("bb"), flag("cc"), flag("dd", "x")]), (), "twice", "x")
        self.assert_unfit(command("a", [flag("aa", "x"), flag("bb", "y"), flag("cc", "y"), flag("dd", "x")]), (),
                          "twice", "y")

    def test_31_names_beneath_twice(self):
        self.assert_unfit(command("a", commands=[command("b"), command("c"), command("b")]), (), "twice", "b")
        self.assert_unfit(command("a", commands=[("b",), ("b", 5), None]), (), "twice", "b")
        self.assert_unfit(command("a", commands=[None, None, ("c",), command("c")]), (), "twice", "c")
        self.assert_unfit(command("a", commands=[None, None, ("c",)]), (), "form", None)

    def test_31_own_names(self):
        own = {"size": lambda: ["big"]}
        self.assert_unfit(command("a", [one("aa", SIZE), many("bb", ODD), one("cc", NONE)]), (), "own", "size")
        self.assert_unfit(command("a", [one("aa", SIZE), many("bb", ODD), one("cc", NONE)]), (), "own", "odd", own=own)
        self.assert_unfit(command("a", [one("aa", SIZE)], [("in", NAME, "one"), ("out", NONE, "rest")]), (), "own",
                          "none", own=own)
        self.assert_unfit(command("a", [many("aa", ODD)], [("in", NONE, "one")]), (), "own", "odd", own=own)

    def test_31_defaults(self):
        bad = [flag("go", default=2), flag("go", default=-1), flag("go", default=True), flag("go", default=None),
               flag("go", default="0"), count("go", default=10), count("go", default=False), count("go", default=None),
               one("go", NUMBER, default=13), one("go", NUMBER, default="4"), one("go", NAME, default=""),
               one("go", NAME, default=()),
               one("go", TEXT, default="abcdef"), one("go", TEXT, default=True),
               one("go", ("one", ("a",)), default="b"),
               one("go", SIZE, default="huge"), one("go", SIZE, default=""), one("go", SIZE, default=5),
               one("go", NONE, default="a"),
               many("go", NAME, default=None), many("go", NAME, default=["a"]), many("go", NAME, default=("a",) * 7),
               many("go", NAME, default=("a", "A")), many("go", SIZE, default=("big", "huge")),
               many("go", NONE, default=("a",)),
               many("go", NUMBER, default=(1, True)), many("go", NAME, default="a")]
        for option in bad:
            self.assert_unfit(command("a", [flag("aa"), option]), (), "default", "go", own=OWN)
            self.assert_unfit(command("a", [flag("aa", default=5), option]), (), "default", "aa", own=OWN)
        good = [flag("go", default=1), count("go", default=9), one("go", NUMBER, default=-3),
                one("go", SIZE, default="small"),
                one("go", TEXT, default=""), many("go", SIZE, default=("big",) * 6), many("go", NONE), one("go", NONE)]
        for option in good:
            self.assertEqual(Grammar(command("a", [option]), own=OWN).option((), "go"), option)

    def test_31_groups_of_options_that_are_not_there(self):
        group = ("most", ("aa", "in"))
        self.assert_unfit(command("a", [flag("aa"), flag("bb")], [("in", NAME, "one")],
                                  [("just", ("aa", "bb")), group]), (), "group", group)
        other = ("with", ("zz", "a"))
        self.assert_unfit(command("a", [flag("aa")], groups=[other, group]), (), "group", other)

    def test_31_deep(self):
        deepest = command("d", commands=[command("e", commands=[command("f")])])
        root = command("a", commands=[command("b", commands=[command("c")]),
                                      command("c", commands=[command("c", commands=[deepest])])])
        self.assert_unfit(root, ("c", "c", "d"), "deep", ("c", "c", "d"))
        self.assertEqual(len(Grammar(command("a", commands=[command("b", commands=[command("c")])]))), 3)

    def test_31_many(self):
        six = [command(name) for name in unlike("c", 6)]
        beside = [command(name) for name in unlike("d", 5)]
        self.assertEqual(len(Grammar(command("a", commands=[command("b", commands=six[:5])] + beside))), 12)
        self.assert_unfit(command("a", commands=[command("b", commands=six)] + beside), (), "many", 13)
        self.assert_unfit(command("a", commands=beside + [command("b", commands=six)]), (), "many", 13)
        full = command("a", commands=[command(name, commands=six) for name in unlike("b", 6)])
        self.assert_unfit(full, (), "many", 43)

    def test_31_command_by_command_with_all_beneath_ahead_of_the_next_beside(self):
        twice = [flag("aa"), flag("aa")]
        wrong = command("w", twice)
        both = command("a", commands=[command("b", commands=[wrong]), wrong])
        self.assert_unfit(both, ("b", "w"), "twice", "aa")
        above = command("a", commands=[command("b", [flag("aa", default=5)], commands=[wrong]), wrong])
        self.assert_unfit(above, ("b",), "default", "aa")
        last = command("a", commands=[command("b", commands=[command("c"), command("d")]), wrong])
        self.assert_unfit(last, ("w",), "twice", "aa")

    def test_8_of_two_faults_the_first_that_is_due(self):
        faults = ["form", "name", "letter", "command", "own", "default", "group", "beneath", "deep", "many"]
        wanted = {
            "name": ("twice", "aa"), "letter": ("twice", "x"), "command": ("twice", "b"), "own": ("own", "lack"),
            "default": ("default", "ee"), "deep": ("deep", ("d", "c", "c")),
        }
        for first, second in itertools.combinations(faults, 2):
            if (first, second) == ("form", "beneath"):
                continue
            root = self.faulty({first, second})
            with self.assertRaises(Unfit) as caught:
                Grammar(root)
            told = caught.exception
            if first in wanted:
                self.assertEqual((told.why, told.found), wanted[first], (first, second))
                self.assertEqual(told.where, ("d", "c", "c") if first == "deep" else (), (first, second))
            elif first == "group":
                self.assertEqual((told.where, told.why, told.found), ((), "group", ("most", ("aa", "zz"))))
            elif first == "beneath":
                self.assertEqual((told.where, told.why, told.found), (("y",), "form", ("y", 5)))
            else:
                self.assertEqual((told.where, told.why), ((), "form"))
                self.assertIs(told.found, root)

    def faulty(self, faults):
        """A root with these faults."""
        options = [flag("aa")] + [flag("aa")] * ("name" in faults)
        options += [flag("bb", "x"), flag("cc", "x")] * ("letter" in faults) + [one("dd",
            ("own", "lack"))] * ("own" in faults)
        options += [flag("ee", default=5)] * ("default" in faults)
        commands = [command("b"), command("b")] * ("command" in faults)
        commands += [("y", 5)] * ("beneath" in faults)
        commands += [command("d", commands=[command("c", commands=[command("c")])])] * ("deep" in faults)
        if "many" in faults:
            commands += [command(name, commands=[command(other) for other in unlike("c", 5)]) for name in ("f", "g",
                "h")]
        groups = [("most", ("aa", "zz"))] * ("group" in faults)
        return ("a", tuple(options), (), tuple(groups) + ((5,) if "form" in faults else ()), tuple(commands))


class ToldTests(Fits):
    """Point 32: what a Grammar tells."""

    def setUp(self):
        self.grammar = grammar("tool")

    def test_32_root_paths_and_commands(self):
        paths = [(), ("put",), ("pull",), ("pull", "list"), ("pull", "lists"), ("pull", "none"), ("purge",)]
        self.assert_same(self.grammar.paths(), paths)
        self.assert_same(self.grammar.root(), tool())
        self.assertEqual(self.grammar.command(()), tool())
        self.assertEqual(self.grammar.command(("pull", "lists")), tool()[4][1][4][1])
        self.assertEqual([self.grammar.command(path)[0] for path in paths[1:]], [path[-1] for path in paths[1:]])
        self.assertEqual(len(self.grammar), 7)
        self.assertEqual(self.grammar.command(path=("purge",)), command("purge"))

    def test_32_options_and_places(self):
        self.assertEqual(self.grammar.option((), "size"), tool()[1][1])
        self.assertEqual(self.grammar.option(path=("put",), name="fast"), flag("fast"))
        self.assertEqual(self.grammar.place(("put",), "where"), ("where", ODD, "maybe"))
        self.assertEqual(self.grammar.place(path=("pull", "none"), name="row"), ("row", NONE, "one"))

    def test_32_not_there(self):
        for thing in [thing for thing in ANY_THINGS if thing != ()] + [("pul",), ("list",), ("tool",), ["put"],
            ("put", "list"), ("pull", None)]:
            for ask in (self.grammar.command, lambda path: self.grammar.option(path, 5),
                        lambda path: self.grammar.place(path, 5)):
                self.assert_refuses_found(NotThere, thing, ask, thing)
        for thing in ANY_THINGS + ["loud", "where", "l", "f", "put"]:
            if thing != "loud":
                self.assert_refuses_found(NotThere, thing, self.grammar.option, (), thing)
            self.assert_refuses_found(NotThere, thing, self.grammar.place, (), thing)
        self.assert_refuses_found(NotThere, "where", self.grammar.option, ("put",), "where")
        self.assert_refuses_found(NotThere, "tag", self.grammar.place, ("put",), "tag")

    def test_32_own_words_and_worths(self):
        for name, words in OWN_WORDS.items():
            self.assert_same(self.grammar.own_words(("own", name)), words)
            self.assertIs(self.grammar.has_worth(("own", name)), len(words) > 0)
        for kind in (NAME, TEXT, NUMBER, ("one", ("a",))):
            self.assert_same(self.grammar.own_words(kind), [])
            self.assertIs(self.grammar.has_worth(kind), True)
        for ask in (self.grammar.own_words, self.grammar.has_worth):
            for kind in BAD_KINDS:
                self.assert_refuses_found(NoKind, kind, ask, kind)
            self.assert_refuses_found(NotThere, "lack", ask, ("own", "lack"))
            self.assert_refuses_found(NotThere, "name", ask, kind=("own", "name"))
        self.assert_refuses_found(NotThere, "size", Grammar(ROOTS["bare"]).own_words, SIZE)

    def test_32_with_another_root(self):
        for name, root in ROOTS.items():
            told = self.grammar.with_root(root)
            self.assertEqual(told, grammar(name))
            self.assertEqual(told.own_words(SIZE), OWN_WORDS["size"])
        self.assertEqual(self.grammar.root(), tool())
        for thing in ANY_THINGS:
            with self.assertRaises(Unfit) as caught:
                self.grammar.with_root(thing)
            self.assertIs(caught.exception.found, thing)
        with self.assertRaises(Unfit) as caught:
            self.grammar.with_root(root=command("a", [one("go", ("own", "lack"))]))
        self.assertEqual(vars(caught.exception), {"where": (), "why": "own", "found": "lack"})

    def test_32_equal(self):
        for one_name, other_name in itertools.product(ROOTS, ROOTS):
            self.assertIs(grammar(one_name) == grammar(other_name), one_name == other_name)
            self.assertIs(grammar(one_name) != grammar(other_name), one_name != other_name)
        for thing in ANY_THINGS + [tool()]:
            self.assertIs(self.grammar == thing, False)
            self.assertIs(thing == self.grammar, False)

    def test_32_tables_count_as_far_as_the_root_speaks_of_them(self):
        root = command("a", [one("go", SIZE)], [("in", ODD, "rest")])
        first = Grammar(root, own={"size": lambda: ["a", "b"], "odd": lambda: [], "x": 5})
        self.assertEqual(first, Grammar(root, own={"odd": lambda: (), "size": lambda: ("a", "b"), "y": None}))
        for size, odd in ((["a"], []), (["a", "b", "c"], []), (["a", "b"], ["c"]), (["b", "a"], [])):
            self.assertNotEqual(first, Grammar(root, own={"size": lambda: size, "odd": lambda: odd}))

    def test_7_told_lists_are_new(self):
        self.grammar.paths().clear()
        self.grammar.own_words(SIZE).append("huge")
        self.assertEqual(len(self.grammar.paths()), 7)
        self.assertEqual(self.grammar.own_words(SIZE), ["big", "small"])
        for ask in (sets, command_words, option_words, flag_words):
            for path in self.grammar.paths():
                told = ask(self.grammar, path)
                before = anew(told)
                told.clear()
                self.assertEqual(ask(self.grammar, path), before)


class AskingTests(Refusals):
    """Points 33 to 35: what all questions refuse."""

    def test_no_grammar(self):
        for thing in ANY_THINGS + [tool()]:
            for ask in ASKING:
                self.assert_refuses_found(NoGrammar, thing, ask, thing, "no path")
        self.assert_refuses_found(NoGrammar, None, fits_some, None, None, None, None)

    def test_not_there(self):
        told = grammar("tool")
        for thing in [thing for thing in ANY_THINGS if thing != ()] + [("tool",), ("put", "put"), ("list",), ("pu",),
            ["put"]]:
            for ask in ASKING:
                self.assert_refuses_found(NotThere, thing, ask, told, thing)
        self.assert_refuses_found(NotThere, ("x",), fits_some, told, ("x",), None, None)

    def test_by_names(self):
        told = grammar("shut")
        self.assertEqual(sets(grammar=told, path=()), [])
        self.assertIs(fits_some(grammar=told, path=(), on=[], off=[]), False)
        self.assertEqual(list(option_words(grammar=told, path=())), ["of", "off", "on"])
        self.assertEqual([ask(grammar=told, path=()) for ask in (command_words, flag_words, goes_bare, goes)][:1], [{}])


class SetTests(Refusals):
    """Point 33."""

    def test_33_against_all_sets_tried(self):
        roots = list(ROOTS.values()) + [made(number, most=6) for number in range(60)]
        for root in roots:
            told = Grammar(root, own=OWN)
            for path in told.paths():
                self.assert_same(sets(told, path), tried_sets(told.command(path)))

    def test_33_each_word_of_groups_with_two_to_six_names(self):
        names = unlike("a", 6)
        for word in ("just", "most", "with", "needs"):
            for length in range(2, 7):
                for grouped in (tuple(names[:length]), tuple(reversed(names))[:length]):
                    root = command("a", [flag(name) for name in names], groups=[(word, grouped)])
                    self.assertEqual(sets(Grammar(root), ()), tried_sets(root))

    def test_33_in_their_order(self):
        root = command("a", [flag("zz"), flag("yy"), flag("xx")])
        told = [(), ("zz",), ("yy",), ("xx",), ("zz", "yy"), ("zz", "xx"), ("yy", "xx"), ("zz", "yy", "xx")]
        self.assert_same(sets(Grammar(root), ()), told)

    def test_33_what_has_no_worth_cannot_stand(self):
        root = command("a", [one("aa", NONE), many("bb", NONE), one("cc", SIZE), flag("dd")],
                       groups=[("needs", ("dd", "aa"))])
        self.assertEqual(sets(Grammar(root, own=OWN), ()), [(), ("cc",)])
        alone = command("a", [one("aa", ("own", "full")), many("bb", ("own", "full"))])
        self.assertEqual(sets(Grammar(alone, own=OWN), ()), [(), ("aa",), ("bb",), ("aa", "bb")])
        barred = command("a", [one("aa", NONE), many("bb", NONE)], groups=[("just", ("aa", "bb"))])
        self.assertEqual(sets(Grammar(barred, own=OWN), ()), [])

    def test_33_some_set_with_all_of_the_first_and_none_of_the_second(self):
        told = grammar("tool")
        for path in told.paths():
            names = [option[0] for option in told.command(path)[1]]
            for on in itertools.chain.from_iterable(itertools.combinations(names, many) for many in range(3)):
                for off in itertools.chain.from_iterable(itertools.combinations(names, many) for many in range(3)):
                    found = [set(names) for names in tried_sets(told.command(path))]
                    wanted = any(set(on) <= names and not set(off) & names for names in found)
                    self.assertIs(fits_some(told, path, on, list(off)), wanted)
                    self.assertIs(fits_some(told, path, list(on) * 2, off + off), wanted)

    def test_33_no_list_of_names_of_options(self):
        told = grammar("tool")
        bad = [thing for thing in ANY_THINGS if thing not in ([], ())] + [["put"], ["where"], ["f"], ("force", "size"),
            {"force": 1}, "force"]
        for thing in bad:
            self.assert_refuses_found(NoList, thing, fits_some, told, ("put",), thing, None)
            self.assert_refuses_found(NoList, thing, fits_some, told, ("put",), ["tag"], thing)

    def test_33_a_set_that_cannot_be(self):
        told = grammar("shut")
        self.assertEqual(sets(told, ()), [])
        self.assertIs(fits_some(told, (), [], []), False)


class BeginningTests(Refusals):
    """Point 34."""

    def assert_words(self, names, wanted):
        """The beginnings of commands, of options and of flags of these names."""
        told = Grammar(command("a", [flag(name) for name in names], commands=[command(name) for name in names]))
        for ask in (command_words, option_words, flag_words):
            found = ask(told, ())
            self.assert_same(found, wanted)
            self.assertEqual(list(found), sorted(found))

    def test_34_beginnings_that_just_one_name_has(self):
        self.assert_words(["put", "pull"], {"pul": "pull", "pull": "pull", "put": "put"})
        self.assert_words(["zz", "ab"], {"a": "ab", "ab": "ab", "z": "zz", "zz": "zz"})

    def test_34_a_name_that_is_the_beginning_of_another_one(self):
        self.assert_words(["list", "lists"], {"list": "list", "lists": "lists"})
        self.assert_words(["aa", "aaa", "aaaa"], {"aa": "aa", "aaa": "aaa", "aaaa": "aaaa"})
        self.assert_words(["size", "si"], {"si": "si", "siz": "size", "size": "size"})
        self.assert_words(["lone", "long", "lo"], {"lo": "lo", "lone": "lone", "long": "long"})

    def test_34_none(self):
        for ask in (command_words, option_words, flag_words):
            self.assert_same(ask(grammar("bare"), ()), {})

    def test_34_flags_alone(self):
        told = Grammar(command("a", [flag("size"), count("sizes"), one("si", NAME), flag("other")]))
        self.assert_same(flag_words(told, ()), begun_names(["size", "other"]))
        self.assert_same(option_words(told, ()), begun_names(["size", "sizes", "si", "other"]))
        self.assertEqual(list(flag_words(told, ())), ["o", "ot", "oth", "othe", "other", "s", "si", "siz", "size"])

    def test_34_what_cannot_be_gone_on_with_counts_too(self):
        told = grammar("tool")
        self.assertEqual(option_words(told, ("pull",)), begun_names(["color", "colder", "no"]))
        self.assertEqual(command_words(told, ("pull",)), begun_names(["list", "lists", "none"]))

    def test_34_one_letter_names(self):
        root = command("a", commands=[command("a"), command("ab"), command("b")])
        self.assertEqual(command_words(Grammar(root), ()), {"a": "a", "ab": "ab", "b": "b"})

    def test_34_against_all_beginnings_tried(self):
        for number in range(60):
            told = Grammar(made(number, most=6), own=OWN)
            for path in told.paths():
                _, options, _, _, beneath = told.command(path)
                self.assertEqual(command_words(told, path), begun_names([below[0] for below in beneath]))
                self.assertEqual(option_words(told, path), begun_names([option[0] for option in options]))
                self.assertEqual(flag_words(told, path),
                                 begun_names([option[0] for option in options if option[2] == "flag"]))


class GoesTests(Refusals):
    """Point 35."""

    def assert_goes(self, root, wanted):
        """Whether each path goes bare, and goes at all."""
        told = Grammar(root, own=OWN)
        self.assertEqual({path: (goes_bare(told, path), goes(told, path)) for path in told.paths()}, wanted)

    def test_35_by_places(self):
        for kind, goes_so in ((NAME, True), (SIZE, True), (ODD, True), (NONE, False)):
            for times in ("one", "some"):
                self.assert_goes(command("a", places=[("in", kind, times)]), {(): (goes_so, goes_so)})
            for times in ("maybe", "rest"):
                self.assert_goes(command("a", places=[("in", kind, times)]), {(): (True, True)})
        self.assert_goes(command("a", places=[("a", NAME, "one"), ("b", NONE, "one")]), {(): (False, False)})
        self.assert_goes(command("a", places=[("a", NAME, "one"), ("b", NONE, "maybe"), ("c", NONE, "rest")]),
                         {(): (True, True)})

    def test_35_by_options(self):
        self.assert_goes(command("a", [flag("aa"), flag("bb")], groups=[("just", ("aa", "bb"))]), {(): (False, True)})
        self.assert_goes(command("a", [flag("aa"), flag("bb")], groups=[("most", ("aa", "bb"))]), {(): (True, True)})
        self.assert_goes(ROOTS["shut"], {(): (False, False)})
        self.assert_goes(command("a", [one("aa", NONE), one("bb", SIZE)], groups=[("just", ("aa", "bb"))]),
                         {(): (False, True)})
        self.assert_goes(command("a", [one("aa", NONE), one("bb", NONE)], groups=[("just", ("aa", "bb"))]),
                         {(): (False, False)})

    def test_35_by_commands_beneath(self):
        shut = command("x", places=[("in", NONE, "one")])
        just = command("y", [flag("aa"), flag("bb")], groups=[("just", ("aa", "bb"))])
        self.assert_goes(command("a", commands=[shut]), {(): (False, False), ("x",): (False, False)})
        self.assert_goes(command("a", commands=[shut, just]),
                         {(): (False, True), ("x",): (False, False), ("y",): (False, True)})
        self.assert_goes(command("a", commands=[just, command("b")]),
                         {(): (True, True), ("y",): (False, True), ("b",): (True, True)})
        wanted = {(): (False, True), ("y",): (False, True), ("y", "b"): (True, True), ("y", "x"): (False, False)}
        self.assert_goes(command("a", commands=[just[:4] + ((command("b"), shut),)]), wanted)
        wanted = {(): (False, False), ("y",): (False, False), ("y", "x"): (False, False)}
        self.assert_goes(command("a", commands=[just[:4] + ((shut,),)]), wanted)

    def test_35_the_command_itself_counts_too(self):
        just = command("y", [flag("aa"), flag("bb")], groups=[("just", ("aa", "bb"))], commands=[command("b")])
        self.assert_goes(just, {(): (False, True), ("b",): (True, True)})
        self.assert_goes(ROOTS["shut"][:4] + ((command("b"),),), {(): (False, False), ("b",): (True, True)})

    def test_35_a_sample(self):
        self.assert_goes(tool(), {
            (): (True, True), ("put",): (True, True), ("pull",): (False, True), ("pull", "list"): (True, True),
            ("pull", "lists"): (True, True), ("pull", "none"): (False, False), ("purge",): (True, True),
        })


class RenamedTests(Refusals):
    """Point 9: other letters, all told likewise."""

    def test_9_with_letters_exchanged(self):
        swap = str.maketrans("abcdefghijklmpqrstuvwxyz", "zyxwvutsrqpmlkjihgfedcba")
        names = ["size", "sift", "si", "no", "lone", "long", "list", "lists"]
        roots = []
        for words in (names, [name.translate(swap) for name in names]):
            options = [flag(words[0], words[0][0]), flag(words[1])] + [count(name) for name in words[2:5]]
            groups = [("just", tuple(words[:3])), ("needs", (words[3], words[0]))]
            roots.append(command(words[0], options, (), groups, [command(name) for name in words[5:]]))
        one_told, other_told = [Grammar(root) for root in roots]
        for ask in (option_words, flag_words, command_words):
            told = {text.translate(swap): name.translate(swap) for text, name in ask(one_told, ()).items()}
            self.assertEqual(ask(other_told, ()), told)
        told = [tuple([name.translate(swap) for name in found]) for found in sets(one_told, ())]
        self.assertEqual(sets(other_told, ()), told)


class ModuleTests(unittest.TestCase):
    """What stands where."""

    def test_grammar_has_its_methods_itself(self):
        for name in ("root", "paths", "command", "option", "place", "own_words", "has_worth", "with_root", "__eq__",
                     "__len__"):
            self.assertIn(name, vars(grammars.Grammar))


if __name__ == "__main__":
    unittest.main()
