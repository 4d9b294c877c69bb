"""Points 101 and 103 to 105: two grammars compared, normal forms, and what could be left out."""

import random
import unittest

from callwords.comparing import compared, idle, normal, parts_them, unlike_paths
from callwords.errors import NoGrammar, Unfit
from callwords.grammars import Grammar
from callwords.kinds import worth_of
from parting import is_loose, tried_parting
from samples import COLOR, NAME, NAMES, NONE, NUMBER, ODD, OWN, ROOTS, SIZE, SMALL_KINDS, TEXT
from samples import command, count, flag, grammar, led, made, many, one
from things import ANY_THINGS, Refusals
from trying import Walk, begun_names, is_live, tried_reading, vocabulary

NO_GRAMMARS = [None, True, "tool", ROOTS["tool"], {}]


def with_thing(parts, at, thing):
    """A tuple with another thing at a number."""
    return parts[:at] + (thing,) + parts[at + 1:]


def otherwise(chance, root):
    """A root with one thing otherwise, if it comes to that."""
    name, options, places, groups, commands = root
    how = chance.randint(0, 9)
    if commands and chance.random() < 0.6:
        at = chance.randrange(len(commands))
        commands = with_thing(commands, at, otherwise(chance, commands[at]))
    elif options and how < 3:
        at = chance.randrange(len(options))
        options = with_thing(options, at, option_otherwise(chance, options[at], how))
    elif places and how < 5:
        at = chance.randrange(len(places))
        thing = chance.choice(SMALL_KINDS) if how == 3 else chance.choice(["one", "maybe", "rest", "some"])
        places = with_thing(places, at, with_thing(places[at], how - 2, thing))
    elif how == 5 and len(options) > 1:
        names = tuple(chance.sample([option[0] for option in options], 2))
        groups = groups[:3] + ((chance.choice(["just", "most", "with", "needs"]), names),)
    elif how == 6:
        groups = groups[1:]
    elif how == 7:
        options = options[1:]
    elif how == 8:
        options = tuple(chance.sample(options, len(options)))
    elif commands:
        at = chance.randrange(len(commands))
        commands = with_thing(commands, at, with_thing(commands[at], 0, chance.choice(NAMES)))
    return name, options, places, groups, commands


def option_otherwise(chance, option, how):
    """An option with another letter, name, or kind or form."""
    if how < 2:
        return with_thing(option, 1 - how, chance.choice([[None, "a", "b", "x"], NAMES][how]))
    if option[3] is None:
        return with_thing(option, 2, "flag" if option[2] == "count" else "count")
    return with_thing(with_thing(option, 4, () if option[2] == "many" else None), 3, chance.choice(SMALL_KINDS))


def pairs(numbers, most):
    """Pairs of small roots that are unlike in few things, or in nothing that counts, with their Grammars."""
    for number in numbers:
        chance = random.Random(number)
        root = made(number, most=most, kinds=SMALL_KINDS, levels=chance.choice([0, 1]))
        other = root
        for _ in range(chance.choice([1, 1, 1, 2, 3])):
            other = otherwise(chance, other)
        try:
            yield chance, root, other, Grammar(root, own=OWN), Grammar(other, own=OWN)
        except Unfit:
            continue


class ComparedTests(Refusals):
    """Points 101, 103, 104."""

    def assert_alike(self, root, other, own=OWN):
        """All tells that they read alike."""
        ours, theirs = Grammar(root, own=OWN), Grammar(other, own=own)
        for told, beside in ((ours, theirs), (theirs, ours)):
            self.assert_same(compared(told, beside), ("alike",))
            self.assertEqual(normal(told), normal(beside))
            self.assert_same(unlike_paths(told, beside), [])

    def assert_parted(self, root, other, many, *paths):
        """Parted by so many words at least; unlike at just these paths."""
        ours, theirs = Grammar(root, own=OWN), Grammar(other, own=OWN)
        for told, beside, first, second in ((ours, theirs, root, other), (theirs, ours, other, root)):
            found = compared(told, beside)
            self.assertEqual((type(found), found[0], len(found)), (tuple, "parted", 2))
            self.assertIs(type(found[1]), list)
            self.assertEqual(len(found[1]), many, found)
            self.assertIs(parts_them(told, beside, found[1]), True)
            self.assertTrue(is_loose(first, second, found[1]))
            self.assertNotEqual(normal(told), normal(beside))
            self.assert_same(unlike_paths(told, beside), list(paths))

    def test_101_what_counts_not(self):
        root = command("a", [one("aa", NUMBER, "a", 4, source="r"), flag("bb"), one("cc", COLOR), many("dd", TEXT)],
                       [("ee", SIZE, "maybe")])
        self.assert_alike(root, command("z", [many("dd", TEXT, default=("x",)), one("cc", ("one", ("grey", "red", "green"))),
                                              flag("bb", default=1, source="q"), one("aa", NUMBER, "a", need=True)],
                                        [("ee", ("one", ("small", "big")), "maybe")]))
        self.assert_alike(root, root, own={**OWN, "size": lambda: ["small", "big"]})

    def test_101_options_that_stand_in_no_set(self):
        self.assert_alike(command("a", [flag("aa"), one("bb", NONE, "b")]), command("a", [flag("aa")]))
        shut = [("just", ("aa", "bb")), ("needs", ("bb", "aa"))]
        self.assert_parted(command("a", [flag("aa"), flag("bb")], groups=shut), command("a", [flag("aa")], groups=[]), 0, ())
        self.assert_alike(command("a", [flag("aa"), count("bb", "b")], groups=shut),
                          command("a", [flag("aa"), one("bb", NAME), one("cc", NONE)], groups=[("just", ("cc", "aa")),
                                                                                             ("most", ("bb", "aa"))]))

    def test_101_a_flag_that_can_only_be_off(self):
        groups = [("just", ("aa", "cc")), ("most", ("aa", "bb"))]
        with_flag = command("a", [flag("aa"), flag("bb", "b"), one("cc", NONE)], groups=groups)
        with_count = command("a", [flag("aa"), count("bb", "b"), one("cc", NONE)], groups=groups)
        self.assert_parted(with_flag, with_count, 2, ())
        self.assert_alike(with_flag, command("a", [flag("aa"), flag("bb", "x"), one("cc", NONE)], groups=groups))

    def test_101_commands_that_can_not_be_gone_to_the_end(self):
        dead, shut = command("dead", places=[("at", NONE, "one")]), command("b", [flag("aa"), flag("bb")], groups=[
            ("just", ("aa", "bb")), ("with", ("aa", "bb"))])
        self.assert_alike(command("a", commands=[command("c"), dead]), command("a", commands=[shut, command("c")]))
        self.assert_alike(command("a", commands=[dead]), shut)
        self.assert_parted(command("a", commands=[command("c"), dead]), command("a", commands=[command("c"), command("dead")]),
                           1, (), ("dead",))
        self.assert_parted(command("a", commands=[command("cd"), command("ce", places=dead[2])]),
                           command("a", commands=[command("cd")]), 1, ())

    def test_101_places_behind_one_without_worths(self):
        self.assert_alike(command("a", [], [("aa", NAME, "one"), ("bb", NONE, "maybe"), ("cc", NAME, "rest")]),
                          command("a", [], [("aa", NAME, "one"), ("dd", ("own", "none"), "rest")]))
        self.assert_parted(command("a", [], [("aa", NAME, "one")]), command("a", [], [("bb", NAME, "one")]), 1, ())
        self.assert_parted(command("a", [], [("aa", NAME, "some")]), command("a", [], [("aa", NAME, "rest")]), 0, ())
        self.assert_parted(command("a", [], [("aa", NAME, "maybe")]), command("a", [], [("aa", NAME, "rest")]), 1, ())

    def test_101_each_thing_that_parts(self):
        for options, others, size in [
            ([flag("aa")], [count("aa")], 1), ([flag("aa")], [flag("ab")], 1), ([flag("aa", "a")], [flag("aa", "b")], 1),
            ([flag("aa", "a")], [flag("aa")], 1), ([flag("aa", "a"), flag("bb", "b")], [flag("aa", "b"), flag("bb", "a")], 1),
            ([one("aa", NAME)], [many("aa", NAME)], 1), ([one("aa", NAME)], [one("aa", TEXT)], 1),
            ([one("aa", NAME, "a")], [one("aa", NAME, "b")], 2), ([one("aa", ("number", 0, 9))], [one("aa", ("number", 0, 8))], 1),
            ([one("aa", ("number", 0, 9))], [one("aa", ("text", 1))], 1), ([one("aa", ODD)], [one("aa", TEXT)], 1),
            ([count("aa")], [flag("ac"), count("aa")], 1), ([flag("aa"), one("ab", NONE)], [flag("aa")], 1),
            ([one("aa", ("one", ("x", "y")))], [one("aa", ("one", ("x", "z")))], 1),
        ]:
            self.assert_parted(command("t", options), command("t", others), size, ())
            beneath = [command("t", commands=[command("b", commands=[command("c", row)])]) for row in (options, others)]
            self.assert_parted(beneath[0], beneath[1], size + 2, ("b", "c"))
        six = [flag(letter * 2) for letter in "abcdef"]
        names = tuple(option[0] for option in six)
        self.assert_parted(command("t", six, groups=[("with", names)]),
                           command("t", six, groups=[("with", names), ("most", names[:2])]), 6, ())
        self.assert_parted(command("t", six[:2], groups=[("just", names[:2])]),
                           command("t", [flag("aa"), count("bb")], groups=[("just", names[:2])]), 2, ())

    def test_101_beneath_commands_whose_options_are_needed(self):
        own = {"dash": ["-x", "--"], "both": ["-x", "y"]}
        table = {name: (lambda words=words: words) for name, words in own.items()}
        for kind, word in [(NAME, "a"), (("number", -9, -5), None), (("own", "dash"), "-x"), (("own", "both"), "y"), (TEXT, None),
                           (("one", ("x", "yy")), None), (None, None)]:
            needed = flag("aa", "a") if kind is None else one("aa", kind, "a")
            roots = [
                command("t", [needed, one("bb", NONE)], commands=[command("c", [needed, count("dd")], commands=[
                    command("e", [flag(name)])], groups=[("with", ("aa", "dd"))])],
                    groups=[("just", ("aa", "bb"))]) for name in ("gg", "hh")]
            told = [Grammar(root, own={**OWN, **table}) for root in roots]
            found = compared(*told)
            self.assertEqual((found[0], len(found[1])), ("parted", 4), found)
            self.assertIs(parts_them(*told, found[1]), True)
            if word is not None:
                self.assertEqual(found[1][0], "--aa=" + word)

    def test_101_a_list_behind_what_closes(self):
        own = {"one": ["-x", "a"], "two": ["a"], "dash": ["-x"]}
        table = {name: (lambda words=words: words) for name, words in own.items()}
        told = [Grammar(command("t", [], [("aa", ("own", name), "maybe")]), own=table) for name in ("one", "two")]
        self.assertEqual(compared(*told), ("parted", ["--", "-x"]))
        told = [Grammar(command("t", [flag("xx", "x")], [("aa", ("own", name), "maybe")]), own=table) for name in ("dash", "two")]
        self.assertEqual(compared(*told), ("parted", ["a"]))
        self.assert_same(parts_them(told[0], told[1], ["-x"]), False)
        self.assert_same(parts_them(told[0], told[1], ["--", "-x"]), True)

    def test_101_each_pair_of_kinds(self):
        own = {"words": list("abcdefgh"), "more": list("abcdefgi"), "dash": ["-a", "-b", "--"], "one": ["-a", "-b"], "two": ["-a", "x"],
               "ten": ["0", "1", "2", "3"], "long": ["a" * 20, "A", " "], "none": [],
               "all": ["-a", "-b", "-c", "-d", "-e", "-f", "-g", "--"]}
        table = {name: (lambda words=words: words) for name, words in own.items()}
        kinds = [("own", name) for name in own] + [NAME, ("one", tuple("abcdefgh")), ("one", ("a", "x"))]
        kinds += [("text", most) for most in (1, 2, 3, 8, 19, 20)]
        kinds += [("number", *ends) for ends in [(0, 3), (0, 4), (-1, 3), (1, 3), (5, 5), (-9, -5), (10, 12), (-99, 99), (12, 999999)]]
        pool = [word for words in own.values() for word in words] + ["", "a", "i", "j", "z", "zz", "aaa", "a" * 8, "a" * 9, "a" * 20]
        pool += ["-" + sign for sign in "abcdefghijk"] + ["-aa", "--a", "A", "AA", " ", "-", "=", "-" + "a" * 7, "B" * 19, "B" * 20]
        pool += [str(number) for number in list(range(-100, 101)) + [999999, 1000000]]
        for number, kind in enumerate(kinds):
            for other in kinds[number:]:
                made_of = [{word: worth for word in pool if (worth := worth_of(one_kind, word, own=own.get(one_kind[-1], ())
                                                                               if one_kind[0] == "own" else ())) is not None}
                           for one_kind in (kind, other)]
                unlike = [word for word in pool if made_of[0].get(word) != made_of[1].get(word)]
                plain = [word for word in unlike if not (word[:1] == "-" and word[1:2] in set("-abcdefghijklmnopqrstuvwxyz") - {""})]
                for options in (True, False):
                    roots = [command("t", [one("aa", one_kind)]) if options else command("t", [], [("at", one_kind, "maybe")])
                             for one_kind in (kind, other)]
                    told = [Grammar(root, own=table) for root in roots]
                    found = compared(*told)
                    if not unlike:
                        self.assertEqual(found, ("alike",))
                        continue
                    self.assertEqual((found[0], len(found[1])), ("parted", 1 if options or plain else 2), (kind, other, found))
                    self.assertIs(parts_them(*told, found[1]), True)

    def test_101_against_all_short_lists_tried(self):
        seen = {"alike": 0, "parted": 0}
        for chance, root, other, ours, theirs in pairs(range(10100, 10400), 2):
            found = compared(ours, theirs)
            seen[found[0]] += 1
            size = len(found[1]) if found[0] == "parted" else 3
            tried, gone = tried_parting(root, other, min(size, 3), widest=800)
            if tried is None:
                self.assertTrue(found[0] == "alike" or len(found[1]) > gone, (root, other, found))
            else:
                self.assertEqual((found[0], size), ("parted", tried))
            if found[0] == "parted":
                self.assertTrue(is_loose(root, other, found[1]))
                self.assertIs(parts_them(ours, theirs, found[1]), True)
            self.assertEqual(normal(ours) == normal(theirs), found[0] == "alike")
            self.assertEqual(unlike_paths(ours, theirs) == [], found[0] == "alike")
        self.assertTrue(min(seen.values()) > 20, seen)

    def test_104_against_reading(self):
        for chance, root, other, ours, theirs in pairs(range(10400, 10460), 2):
            for _ in range(4):
                one_root = chance.choice([root, other])
                words = led(chance, one_root, 5, vocabulary(one_root), Walk(one_root), is_live)
                told = [tried_reading(tree, words) for tree in (root, other)]
                told = [one and (one[0], [sorted(row) for row in one[1]], one[2]) for one in told]
                self.assertIs(parts_them(ours, theirs, words), told[0] != told[1])
                self.assertIs(parts_them(ours, theirs, tuple(words)), told[0] != told[1])

    def test_104_any_thing(self):
        ours, theirs = Grammar(command("t", [], [("aa", NAME, "rest")])), Grammar(command("t"))
        for thing in ANY_THINGS + [["a"] * 41, ["a", 5], ["a\n"]]:
            parts = isinstance(thing, (list, tuple)) and 0 < len(thing) < 31 and all(
                isinstance(word, str) and word.isalpha() and word.islower() and word.isascii() and len(word) < 9 for word in thing)
            self.assertIs(parts_them(ours, theirs, thing), bool(parts))
            self.assertIs(parts_them(ours, ours, thing), False)
        self.assertIs(parts_them(one=ours, other=theirs, thing=["a"] * 30), True)
        self.assertIs(parts_them(ours, theirs, ["a"] * 31), False)

    def test_103_made_of_tuples_texts_and_numbers(self):
        for name in ROOTS:
            self.assert_plain(normal(grammar(name)), 10)
        self.assertEqual(normal(grammar("shut")), ())

    def assert_plain(self, thing, levels):
        """Tuples, texts and numbers, not more levels within one another."""
        self.assertTrue(type(thing) in (tuple, str, int), thing)
        if isinstance(thing, tuple):
            self.assertTrue(levels > 0)
            for part in thing:
                self.assert_plain(part, levels - 1)

    def test_104_paths(self):
        first = command("t", commands=[command("a", commands=[command("c"), command("d")]), command("b", [flag("on")])])
        second = command("t", commands=[command("b", [flag("of")]), command("a", commands=[command("c"), command("e")])])
        self.assert_parted(first, second, 2, ("a",), ("a", "d"), ("a", "e"), ("b",))
        self.assert_parted(first, command("t"), 0, (), ("a",), ("a", "c"), ("a", "d"), ("b",))

    def test_101_large_ones(self):
        options = [flag(letter * 2, letter) for letter in "abcdef"]

        def root(groups):
            leaves = [command(name, options, [("w", TEXT, "rest")]) for name in "xy"]
            last = command("y", options, [("w", TEXT, "rest")], groups)
            return command("t", options, commands=[command("a", options, commands=leaves),
                                                   command("b", options, commands=leaves[:1] + [last])])
        self.assert_parted(root([]), root([("most", ("aa", "ff"))]), 4, ("b", "y"))
        self.assert_alike(root([]), root([]))

    def test_101_refused(self):
        told = grammar("bare")
        for thing in NO_GRAMMARS:
            for ask in (compared, unlike_paths, lambda *pair: parts_them(*pair, None)):
                self.assert_refuses_found(NoGrammar, thing, ask, thing, None)
                self.assert_refuses_found(NoGrammar, thing, ask, told, thing)
            for ask in (normal, idle):
                self.assert_refuses_found(NoGrammar, thing, ask, thing)
        self.assertEqual(compared(one=told, other=told), ("alike",))
        self.assertEqual(unlike_paths(one=told, other=told), [])
        self.assertEqual((normal(grammar=told), idle(grammar=told)), (normal(told), idle(told)))


class IdleTests(Refusals):
    """Point 105."""

    def test_105_options_and_commands_that_no_list_has(self):
        root = command("t", [one("lone", NONE), flag("loud"), flag("no"), count("lot")], commands=[
            command("put", [one("size", NONE), many("si", TEXT)]), command("pull", [flag("aa")], [("at", NONE, "one")]),
            command("list", commands=[command("dead", [flag("bb")], [("at", NONE, "some")]), command("deal")]),
        ], groups=[("just", ("no", "lone")), ("most", ("no", "lot"))])
        self.assert_same(idle(Grammar(root, own=OWN)), (
            [((), "lone"), ((), "lot"), ((), "pull"), (("put",), "size"), (("list",), "dead")],
            [((), "command", "p", "put"), ((), "command", "pu", "put"), ((), "option", "l", "loud"), ((), "option", "lo", "loud"),
             (("put",), "option", "s", "si"), (("list",), "command", "d", "deal"), (("list",), "command", "de", "deal"),
             (("list",), "command", "dea", "deal")],
        ))

    def test_105_a_whole_name_that_begins_another(self):
        root = command("t", [one("lo", NONE), flag("loud")])
        self.assert_same(idle(Grammar(root, own=OWN)), ([((), "lo")], [((), "option", "l", "loud"), ((), "option", "lo", "loud")]))

    def test_105_a_flag_that_can_only_be_off_stands_in_lists(self):
        groups = [("just", ("aa", "cc")), ("most", ("aa", "bb")), ("most", ("aa", "dd"))]
        root = command("t", [flag("aa"), flag("bb"), one("cc", NONE), count("dd")], groups=groups)
        self.assert_same(idle(Grammar(root, own=OWN)), ([((), "cc"), ((), "dd")], []))

    def test_105_nothing(self):
        for name in ("bare", "places", "some", "letters"):
            self.assert_same(idle(grammar(name)), ([], []))

    def test_105_where_no_list_reads(self):
        root = command("t", [flag("aa"), count("bb")], commands=[command("b", [flag("cc")]), command("c")],
                       groups=[("just", ("aa", "bb")), ("with", ("aa", "bb"))])
        self.assert_same(idle(Grammar(root)), ([((), "aa"), ((), "bb"), ((), "b"), ((), "c")], []))
        root = command("t", [flag("aa")], [("at", NONE, "one")])
        self.assert_same(idle(Grammar(root, own=OWN)), ([((), "aa")], []))

    def test_105_against_lists_that_read(self):
        for number in range(10500, 10540):
            root = made(number, most=3, kinds=SMALL_KINDS, levels=1)
            told, chance = Grammar(root, own=OWN), random.Random(number)
            out, further = idle(told)
            for _ in range(10):
                words = led(chance, root, 6, vocabulary(root), Walk(root), is_live)
                reading = tried_reading(root, words)
                if reading:
                    for at, row in enumerate(reading[1]):
                        named = [(reading[0][:at], name) for name, _ in row] + [(reading[0][:at], name) for name in reading[0][at:at + 1]]
                        self.assertFalse(set(named) & set(out))
            for path, word, text, name in further:
                names = [part[0] for part in told.command(path)[{"command": 4, "option": 1, "flag": 1}[word]]]
                left = [one_name for one_name in names if (path, one_name) not in out]
                self.assertIn(begun_names(left).get(text), (name, None))
                self.assertNotEqual(begun_names(names).get(text), name)

    def test_7_told_anew(self):
        idle(grammar("tool"))[0].append("x")
        self.assertNotIn("x", idle(grammar("tool"))[0])
        pair = Grammar(command("t", [flag("aa")])), Grammar(command("t"))
        compared(*pair)[1].append("x")
        self.assertEqual(len(compared(*pair)[1]), 1)


if __name__ == "__main__":
    unittest.main()
