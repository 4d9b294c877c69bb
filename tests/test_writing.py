"""Points 61 to 65: the shortest words of a reading, safe lists for a Call, plain lists."""

import random
import unittest

from callwords.errors import Lacks, NoCall, NoGrammar, NoList, NoReading, NoTruth, NoWay, Unread, Wrong
from callwords.grammars import Grammar
from callwords.layers import Call, call_line, called
from callwords.lines import joined
from callwords.reading import read
from callwords.writing import is_safe, plain, plain_words, safe_line, shortest
from samples import COLOR, NAME, NUMBER, ODD, OWN, ROOTS, SIZE, TEXT
from samples import command, count, flag, grammar, led, made, many, one
from searching import length_of, safe_readings, tried_row, tried_shortest
from things import ANY_THINGS, Refusals, anew
from trying import Walk, is_live, tried_reading, vocabulary

TOOL = grammar("tool")
FEW_KINDS = [("number", 0, 1), ("one", ("a", "ab")), ("text", 1), ODD, SIZE]


def some_readings(numbers, most, tries=3):
    """Roots made by chance, and readings of theirs."""
    for number in numbers:
        root, chance = made(number, most=most, kinds=FEW_KINDS, levels=1), random.Random(number)
        for _ in range(tries):
            reading = tried_reading(root, led(chance, root, 7, vocabulary(root), Walk(root), is_live))
            if reading is not None:
                yield root, reading


def read_long(root, words):
    """The reading of any many words, by the tests' own reader."""
    return tried_reading(root, words)


class Short(Refusals):
    """Tests of short lists."""

    def assert_shortest(self, root, reading, length=None):
        """A list that reads to just the reading, as long as wanted, or told by the tests' own search."""
        told = Grammar(root, own=OWN)
        words = shortest(told, reading)
        self.assertIs(type(words), list)
        self.assertEqual(read_long(root, words), reading)
        self.assertTrue(all(len(word) <= 40 for word in words))
        self.assertEqual(length_of(words), length or tried_shortest(root, reading), (words, reading))

    def assert_words(self, options, row, words, places=(), filled=()):
        """Just these words for what stands at a root alone."""
        told = Grammar(command("a", options, places), own=OWN)
        self.assert_same(shortest(told, ((), (tuple(row),), tuple(filled))), words)
        if len(words) <= 40:
            self.assertEqual(read(told, words), ((), (tuple(row),), tuple(filled)))


class ShortestTests(Short):
    """Points 61 and 62."""

    def test_62_flags_and_counts_as_letters_in_one_word(self):
        options = [flag("aa", "a"), count("bb", "b"), flag("cc", "c"), flag("dd"), count("ee"), flag("ddd", "z")]
        self.assert_words(options, [], [])
        self.assert_words(options, [("aa", 1)], ["-a"])
        self.assert_words(options, [("aa", 1), ("bb", 3), ("cc", 1)], ["-abbbc"])
        self.assert_words(options, [("aa", 0), ("bb", 2), ("cc", 0)], ["--no-a", "--no-c", "-bb"])
        self.assert_words(options, [("dd", 1), ("ee", 2)], ["--dd", "--e", "--e"])
        self.assert_words(options, [("dd", 0), ("ddd", 0)], ["--no-dd", "--no-ddd"])

    def test_62_ahead_of_the_letter_of_a_worth(self):
        options = [flag("aa", "a"), one("size", NUMBER, "s"), many("tag", TEXT, "t"), one("to", SIZE),
                   count("verb", "v")]
        self.assert_words(options, [("size", 5)], ["-s5"])
        self.assert_words(options, [("aa", 1), ("size", -3)], ["-as-3"])
        self.assert_words(options, [("aa", 1), ("tag", ("x", "y")), ("verb", 2)], ["-avvtx", "-ty"])
        self.assert_words(options, [("to", "big")], ["--to=big"])
        self.assert_words(options, [("tag", ("",)), ("to", "small")], ["--to=small", "--ta="])
        self.assert_words(options, [("tag", ("", "a b", ""))], ["--ta=", "-ta b", "--ta="])

    def test_62_a_worth_behind_its_option_where_letters_need_the_room(self):
        self.assert_words([flag("aa", "a"), one("text", TEXT, "t")], [("aa", 1), ("text", "")], ["-at", ""])
        self.assert_words([flag("aa", "a"), one("text", TEXT)], [("aa", 1), ("text", "")], ["--t=", "-a"])
        counts = [count("a" + letter, letter) for letter in "bcde"]
        row = [("a" + letter, 9) for letter in "bcde"]
        options = counts + [one("text", ("text", 20), "t")]
        self.assert_words(options, row + [("text", "xy")], ["-" + "b" * 9 + "c" * 9 + "d" * 9 + "e" * 9 + "txy"])
        self.assert_words(options, row + [("text", "xyz")], ["-" + "b" * 9 + "c" * 9 + "d" * 9 + "e" * 9 + "t", "xyz"])

    def test_62_the_one_that_closes_only_where_a_word_of_a_place_needs_it(self):
        places = [("in", ("text", 20), "rest")]
        self.assert_words([flag("aa", "a")], [("aa", 1)], ["-a", "x", "-", "-5", "-=", ""], places,
                          [("in", ("x", "-", "-5", "-=", ""))])
        for word in ("-x", "--", "--aa", "-a b", "---"):
            self.assert_words([flag("aa", "a")], [("aa", 1)], ["-a", "--", "x", word], places, [("in", ("x", word))])

    def test_61_shortest_names(self):
        self.assertEqual(shortest(TOOL, (("pull", "lists"), ((), (("color", "red"),), ()), (("row", "a"),))),
                         ["pul", "-cred", "lists", "a"])
        self.assertEqual(shortest(TOOL, (("purge",), ((("loud", 0), ("size", 4)), ()), ())), ["--no-l", "-s4", "pur"])
        told = Grammar(command("a", [flag("on"), flag("one"), count("only")],
                               commands=[command("s"), command("st"), command("sta")]))
        self.assertEqual(shortest(told, (("st",), ((("on", 1), ("one", 0), ("only", 1)), ()), ())),
                         ["--on", "--no-one", "--onl", "st"])

    def test_61_numbers_and_quotes(self):
        self.assert_words([one("aa", ("number", -999999, 999999), "a"), one("bb", ("text", 20), "b")],
                          [("aa", -999999), ("bb", "it's \"so\" \\")], ["-a-999999", "-bit's \"so\" \\"])

    def test_61_against_all_lists_tried(self):
        tried = 0
        for root, reading in some_readings(range(4000, 4040), 2):
            tried += 1
            self.assert_shortest(root, reading)
        self.assertGreater(tried, 30)

    def test_61_against_all_lists_tried_with_worths_without_signs(self):
        options = [many("tag", TEXT, "t"), flag("aa", "a"), one("to", TEXT, "o"), count("tags", "c"), many("top", TEXT)]
        rows = [
            [("tag", ("", "")), ("aa", 1)], [("tag", ("", "x")), ("aa", 1)], [("tag", ("",)), ("aa", 1), ("to", "")],
            [("aa", 1), ("to", ""), ("tags", 2)],
            [("tag", ("",)), ("to", "a b")], [("tag", ("",)), ("aa", 1), ("tags", 1), ("top", ("", "x"))],
            [("aa", 1), ("top", ("",))],
            [("tag", ("'",)), ("aa", 0), ("to", "\\")], [("aa", 1), ("tags", 1), ("top", ("-", "--"))],
        ]
        for row in rows:
            self.assert_shortest(command("a", options), ((), (tuple(row),), ()))

    def test_61_forty_signs_in_a_word_of_letters(self):
        chance = random.Random(61)
        for counts in (3, 4, 5):
            for _ in range(60):
                form, short = chance.choice(["one", "many"]), chance.choice(["z", "z", "z", None])
                how_many = 1 if form == "one" else chance.randint(1, 6)
                worths = ["x" * chance.choice([0, 0, 1, 2, 10, 19, 20]) for _ in range(how_many)]
                options = [count("a" + letter, letter) for letter in "bcdef"[:counts]]
                options.append({"one": one, "many": many}[form]("zone", ("text", 20), short))
                row = [(option[0], chance.choice([5, 7, 8, 9, 9, 9])) for option in options[:counts]]
                letters = sum(worth for _, worth in row)
                row.append(("zone", worths[0] if form == "one" else tuple(worths)))
                if chance.random() < 0.2 and counts < 5:
                    options.append(flag("yy", "y"))
                    row.append(("yy", 1))
                    letters += 1
                wanted = tried_row(letters, [(short, "--z", worth) for worth in worths])
                self.assert_shortest(command("a", options), ((), (tuple(row),), ()), wanted)

    def test_61_forty_signs_and_worths_without_signs_of_a_long_name(self):
        for worths in (("",), ("", "x"), ("x", ""), ("", ""), ("", "", "xy"), ("x" * 20, ""), ("x" * 20,) * 2 + ("",),
                       ("", "x" * 10, "")):
            for counts in (1, 3, 4, 5):
                options = [many("zone", ("text", 20), "z")]
                options += [count("zo" + letter, letter) for letter in "bcdef"[:counts]]
                for most in (1, 8, 9):
                    row = (("zone", worths),) + tuple([(option[0], most) for option in options[1:]])
                    wanted = tried_row(counts * most, [("z", "--zon", worth) for worth in worths])
                    self.assert_shortest(command("a", options), ((), (row,), ()), wanted)

    def test_61_letters_without_any_worth(self):
        for counts in range(1, 7):
            for most in (7, 8, 9):
                options = [count("a" + letter, letter) for letter in "bcdefg"[:counts]]
                row = tuple([(option[0], most) for option in options])
                self.assert_shortest(command("a", options), ((), (row,), ()), tried_row(counts * most, []))

    def test_61_as_many_parts_as_may_be(self):
        for worths in (("",) * 6, ("x" * 20,) * 6, ("",) * 5 + ("x",), ("",) * 3 + ("xy",) * 3):
            options = [many("zone", ("text", 20), "z")] + [count("a" + letter, letter) for letter in "bcdef"]
            row = (("zone", worths),) + tuple([("a" + letter, 9) for letter in "bcdef"])
            self.assert_shortest(command("a", options), ((), (row,), ()),
                                 tried_row(45, [("z", "--z", worth) for worth in worths]))

    def test_61_however_long(self):
        options = [many(name, TEXT) for name in ("aa", "bb")] + [count("cc")]
        row = (("aa", ("x",) * 6), ("bb", ("",) * 6), ("cc", 9))
        reading = ((), (row,), (("in", ("-x",) * 30),))
        self.assert_shortest(command("a", options, [("in", ODD, "rest")]), reading,
                             (52, 6 * 6 + 6 * 5 + 9 * 4 + 3 + 30 * 3))

    def test_61_refused(self):
        for ask in (shortest, plain):
            for thing in ANY_THINGS + [ROOTS["bare"]]:
                self.assert_refuses_found(NoGrammar, thing, ask, thing, None)
            for thing in ANY_THINGS + [((), ((),), ()), (("put",), ((), ()), ()), [("purge",), ((), ()), ()],
                                       (("purge",), ((), ()), (("in", "x"),))]:
                self.assert_refuses_found(NoReading, thing, ask, TOOL, thing)
            self.assertEqual(ask(grammar=TOOL, reading=(("purge",), ((), ()), ()))[-1][:3], "pur")


class PlainTests(Short):
    """Point 65."""

    def test_65_all_in_order_by_whole_names(self):
        words = ["-vls7", "put", "-fta b", "--no-fas", "-n", "-n", "-t", "", "x", "--", "-x", "-y"]
        reading = read(TOOL, words)
        told = ["--loud", "--size=7", "--level", "put", "--tag=a b", "--tag=", "--times", "--times", "--force",
                "--no-fast", "--", "x", "-x", "-y"]
        self.assert_same(plain(TOOL, reading), told)
        self.assert_same(plain_words(TOOL, words), told)
        self.assert_same(plain_words(TOOL, told), told)

    def test_65_options_of_each_level(self):
        words = ["-v", "pull", "-cgrey", "list", "-a", "-b-1", "3", "-1"]
        told = ["--level", "pull", "--color=grey", "list", "--by=-1", "--all", "3", "-1"]
        self.assert_same(plain_words(TOOL, words), told)
        self.assert_same(plain(TOOL, read(TOOL, told)), told)
        self.assert_same(shortest(TOOL, read(TOOL, told)), ["-v", "pul", "-cgrey", "list", "-ab-1", "3", "-1"])

    def test_65_closed_only_where_a_word_would_be_taken_otherwise(self):
        self.assert_same(plain_words(TOOL, ["put", "--", "x"]), ["put", "x"])
        self.assert_same(plain_words(TOOL, ["put", "x", "-n", "-1"]), ["put", "--times", "x", "-1"])
        self.assert_same(plain_words(TOOL, ["--", "put", "x", "-1", "-5", "--"]), ["put", "--", "x", "-1", "-5", "--"])
        self.assert_same(plain_words(grammar("some"), ["--", "-1", "--size=1"]), ["--", "-1", "--size=1"])
        self.assert_same(plain_words(grammar("bare"), ["--"]), [])

    def test_65_reads_to_the_same(self):
        for root, reading in some_readings(range(4100, 4140), 2):
            told = Grammar(root, own=OWN)
            words = plain(told, reading)
            self.assertEqual(read_long(root, words), reading)
            self.assertEqual(plain_words(told, words), words)
            self.assertEqual(plain_words(told, shortest(told, reading)), words)
            self.assertFalse([word for word in words if word[:1] == "-" and word[1:2].isalpha() and "--" not in words])

    def test_65_refused_as_reading(self):
        for thing in ANY_THINGS:
            self.assert_refuses_found(NoGrammar, thing, plain_words, thing, None)
        for thing in [None, "a", 5, ["a" * 41], ["a"] * 41, {"a": 1}, [None]]:
            self.assert_refuses_found(NoList, thing, plain_words, TOOL, thing)
        self.assert_refused(Wrong, {"at": 1, "sign": 0, "words": ("--",)}, plain_words, grammar=TOOL,
                            words=["purge", "x"])


class SafeTests(Short):
    """Point 63."""

    def setUp(self):
        self.options = [flag("aa", "a", source="ra"), count("bb", "b", 1, source="rb"),
                        one("cc", NUMBER, "c", 5, source="rc"),
                        many("dd", NAME, "d", source="rd"), one("ee", NAME, "e", need=True)]
        self.grammar = Grammar(command("a", self.options, [("in", NAME, "maybe"), ("out", TEXT, "rest")]))

    def assert_safe(self, line, words, wanted, **sort):
        """Whether words are safe for the Call of a line."""
        call = call_line(self.grammar, line)
        for thing in (words, tuple(words)):
            self.assertIs(is_safe(self.grammar, call, thing, **sort), wanted, (words, sort))

    def test_63_what_stands_has_the_worth(self):
        self.assert_safe("-ex -c7", ["-c7", "-ex"], True)
        self.assert_safe("-ex -c7", ["-c6", "-ex"], False)
        self.assert_safe("-ex -c7", ["-c7", "-ey"], False)
        self.assert_safe("-ex -c7", ["-ac7", "-ex"], False)
        self.assert_safe("-ex -c7", ["--no-a", "-c7", "-ex"], True)
        self.assert_safe("-ex -bb", ["-bex"], False)
        self.assert_safe("-ex -bb", ["-bbex"], True)
        self.assert_safe("-ex -da -db", ["-ex", "-db", "-da"], False)
        self.assert_safe("-ex -da -db", ["-ex", "-da", "-db"], True)
        self.assert_safe("-ex", ["-ex", "-b", "-c5"], True)

    def test_63_what_does_not_stand_is_the_default(self):
        self.assert_safe("-ex -c7", ["-ex"], False)
        self.assert_safe("-ex -c5", ["-ex"], True)
        self.assert_safe("-ex --no-a", ["-ex"], True)
        self.assert_safe("-ex -a", ["-ex"], False)
        self.assert_safe("-ex -b", ["-ex"], True)

    def test_63_what_is_in_need_stands(self):
        self.assertIs(is_safe(self.grammar, call_line(self.grammar, "-ex"), []), False)
        call = called(self.grammar, ((), ((),), ()), book={((), "ee"): ("x",)})
        self.assertIs(is_safe(self.grammar, call, []), False)
        self.assertIs(is_safe(self.grammar, call, ["-ex"]), True)

    def test_63_what_is_at_risk_stands(self):
        full = ["--no-a", "-b", "-c5", "-da", "-ex"]
        self.assert_safe("-ex -da", ["-ex", "-da"], True)
        self.assert_safe("-ex -da", ["-ex", "-da"], True, rooms=["ee", "a", "zz"], books=False)
        self.assert_safe("-ex -da", ["-ex", "-da"], False, rooms=["ra"])
        self.assert_safe("-ex -da", ["-ex", "-da", "--no-a"], True, rooms=["ra"])
        self.assert_safe("-ex -da", ["-ex", "-da", "--no-a"], False, rooms=("ra", "rb"))
        self.assert_safe("-ex -da", full, True, rooms=["ra", "rb", "rc", "rd"])
        self.assert_safe("-ex -da", full, True, books=True)
        for word in full:
            self.assert_safe("-ex -da", [other for other in full if other != word], False, books=True)

    def test_63_path_and_places(self):
        self.assert_safe("-ex y", ["-ex", "y"], True)
        self.assert_safe("-ex y", ["-ex"], False)
        self.assert_safe("-ex", ["-ex", "y"], False)
        self.assert_safe("-ex y -- -a ''", ["-ex", "y", "--", "-a", ""], True)
        self.assert_safe("-ex y -- -a ''", ["-ex", "y", "", "--", "-a"], False)
        call = call_line(TOOL, "put x")
        self.assertIs(is_safe(TOOL, call, ["put", "x"]), True)
        self.assertIs(is_safe(TOOL, call, ["purge"]), False)

    def test_63_each_command_counts(self):
        beneath = command("b", [flag("aa", "a")])
        told = Grammar(command("a", [flag("aa", "a")],
                               commands=[beneath, command("c", [flag("aa", "a")]), command("d"), command("e")]))
        call = call_line(told, "-a b -a")
        for words, wanted in ((["-a", "b", "-a"], True), (["-a", "b"], False), (["b", "-a"], False), (["b"], False),
                              (["-a", "c", "-a"], False)):
            self.assertIs(is_safe(told, call, words), wanted)
        self.assertIs(is_safe(told, call_line(told, "d"), ["d"]), True)
        self.assertIs(is_safe(told, call_line(told, "d"), ["e"]), False)

    def test_63_what_is_in_need_here_though_not_in_the_calls_grammar(self):
        call = call_line(Grammar(command("a", [one("aa", NAME)])), "")
        told = Grammar(command("a", [one("aa", NAME, need=True)]))
        self.assertIs(is_safe(told, call, []), False)
        self.assert_refused(NoWay, {"found": call}, safe_line, told, call)

    def test_63_what_is_no_list_that_reads(self):
        call = call_line(self.grammar, "-ex")
        for thing in ANY_THINGS + [["-ex", "--"] + [""] * 39, ["-ex", None], "-ex", {"-ex": 1}, ["-e"], ["-ex", "-zz"]]:
            self.assertIs(is_safe(self.grammar, call, thing), False)
        self.assertIs(is_safe(self.grammar, call, ["-ex", "--"]), True)

    def test_63_a_call_of_other_options_or_places(self):
        call, line = call_line(self.grammar, "-ex"), ["-ex"]
        places = self.grammar.root()[2]
        for options, others in (
            (self.options[:4], places), (self.options + [flag("ff")], places),
            ([flag("zz")] + self.options[1:], places), (self.options, places[:1]),
            (self.options, (("zz", NAME, "maybe"), places[1])), (self.options, places[:1] + (("out", NAME, "maybe"),)),
            (self.options[::-1], places),
        ):
            other = Grammar(command("a", options, others))
            if options[-1] == self.options[-1]:
                self.assertIs(is_safe(other, call, line), False)
            with self.assertRaises(NoWay) as caught:
                safe_line(other, call)
            self.assertIs(caught.exception.found, call)
        self.assertIs(is_safe(Grammar(command("b", self.options, places)), call, line), True)

    def test_63_refused(self):
        call = call_line(self.grammar, "-ex")
        for ask in (lambda grammar, call, **sort: is_safe(grammar, call, None, **sort), safe_line):
            for thing in ANY_THINGS + [ROOTS["bare"], call]:
                self.assert_refuses_found(NoGrammar, thing, ask, thing, None, rooms=None, books=None)
            for thing in ANY_THINGS + [self.grammar]:
                self.assert_refuses_found(NoCall, thing, ask, self.grammar, thing, rooms=None, books=None)
            for thing in [None, True, "a", {}, {"a": "b"}, ["A"], ["a", None], ("a", ""), [["a"]], ["abcdefghi"], 5]:
                self.assert_refuses_found(NoList, thing, ask, self.grammar, call, rooms=thing, books=None)
            for thing in ANY_THINGS:
                if not isinstance(thing, bool):
                    self.assert_refuses_found(NoTruth, thing, ask, self.grammar, call, rooms=["a"], books=thing)
            with self.assertRaises(TypeError):
                ask(self.grammar, call, (), False)
        self.assertIs(is_safe(grammar=self.grammar, call=call, thing=["-ex"], rooms=(), books=False), True)
        self.assertEqual(safe_line(grammar=self.grammar, call=call, rooms=["zz", "a"], books=False), ["-ex"])


class SafeLineTests(Short):
    """Point 64."""

    def assert_way(self, options, line, wanted, *, groups=(), places=(), **sort):
        """A shortest safe list, or None, for the Call of a line."""
        told = Grammar(command("a", options, places, groups), own=OWN)
        call = call_line(told, line)
        if wanted is None:
            self.assert_refused(NoWay, {"found": call}, safe_line, told, call, **sort)
        else:
            self.assert_same(safe_line(told, call, **sort), wanted)
            self.assertIs(is_safe(told, call, wanted, **sort), True)

    def test_64_what_need_not_stand_is_left_out(self):
        options = [flag("aa", "a", source="r"), count("bb", "b", 2), one("cc", NUMBER, "c", 5),
                   many("dd", NAME, "d", ("x",))]
        self.assert_way(options, "--no-a -bb -c5 -dx", [])
        self.assert_way(options, "-abbb", ["-abbb"])
        self.assert_way(options, "-bb -c6", ["-c6"])
        self.assert_way(options, "--no-a", ["--no-a"], rooms=["r"])
        self.assert_way(options, "", ["--no-a", "-bbc5", "-dx"], books=True)

    def test_64_options_that_stand_by_a_group(self):
        options = [flag("aa", "a", 1), flag("bb", "b", 1), one("cc", NUMBER, "c", 5), flag("dd")]
        self.assert_way(options, "-abc5", [], groups=[("with", ("aa", "bb"))])
        self.assert_way(options, "-abc7", ["-abc7"], groups=[("needs", ("cc", "aa", "bb"))])
        self.assert_way(options, "-a", ["-a"], groups=[("just", ("aa", "bb"))])
        self.assert_way([flag("aa"), count("bb", default=3)], "--bb --bb --bb", ["--b"] * 3,
                        groups=[("just", ("aa", "bb"))])
        self.assert_way(options, "-b --no-a --dd", ["--no-a", "--d", "-b"], groups=[("with", ("bb", "dd"))])

    def test_64_no_way_of_what_is_at_risk(self):
        self.assert_way([one("aa", NAME, source="r")], "", [])
        self.assert_way([one("aa", NAME, source="r")], "", None, rooms=["r"])
        self.assert_way([one("aa", NAME)], "", None, books=True)
        self.assert_way([many("aa", NAME)], "", None, books=True)
        self.assert_way([many("aa", NAME, source="r")], "", None, rooms=("s", "r"))
        self.assert_way([count("aa")], "", None, books=True)
        self.assert_way([count("aa")], "--aa", ["--a"], books=True)
        self.assert_way([flag("aa")], "", ["--no-a"], books=True)

    def test_64_no_way_of_what_differs_from_its_default(self):
        told = Grammar(command("a", [one("aa", NAME, default="x"), count("bb", default=1),
                                     many("cc", NAME, default=("x",))]))
        for key, words in ((((), "bb"), ("0",)), (((), "cc"), ())):
            call = called(told, ((), ((),), ()), book={key: words})
            self.assert_refused(NoWay, {"found": call}, safe_line, told, call)
            self.assertIs(is_safe(told, call, []), False)

    def test_64_no_way_by_a_group(self):
        options, groups = [flag("aa", "a", source="r"), flag("bb", "b", source="r")], [("most", ("aa", "bb"))]
        told = Grammar(command("a", options, (), groups))
        call = called(told, ((), ((),), ()), room={"r": "yes"})
        self.assertEqual(call.worths(), [((), "aa", 1), ((), "bb", 1)])
        self.assert_refused(NoWay, {"found": call}, safe_line, told, call)
        for sort in ({"rooms": ["r"]}, {"books": True}):
            self.assert_refused(NoWay, {"found": call}, safe_line, told, call, **sort)
        half = Grammar(command("a", [flag("aa", "a", 1), flag("bb", "b", source="r")], (), groups))
        self.assertEqual(safe_line(half, called(half, ((), ((),), ()), room={"r": "yes"})), ["-b"])

    def test_64_no_way_of_more_than_forty_words(self):
        options = [many("aa", NAME), many("bb", NAME)]
        told = Grammar(command("a", options, [("in", NAME, "rest")]))
        for rest, way in ((28, True), (29, False)):
            reading = ((), ((("aa", ("x",) * 6), ("bb", ("x",) * 6)),), (("in", ("y",) * rest),))
            call = called(told, reading)
            if way:
                self.assertEqual(len(safe_line(told, call)), 40)
            else:
                self.assert_refused(NoWay, {"found": call}, safe_line, told, call)
                self.assertIs(is_safe(told, call, shortest(told, reading)), False)

    def test_64_no_call_of_this_grammar(self):
        for line in ("put x", "-l purge", "pull -cred list 5", "pull -cred lists a"):
            call = call_line(TOOL, line)
            for name in ("bare", "letters", "some", "dash"):
                self.assert_refused(NoWay, {"found": call}, safe_line, grammar(name), call)
                self.assertIs(is_safe(grammar(name), call, []), False)
        same_names = Grammar(command("a", [one("aa", ("number", 0, 5)), count("bb")], [("in", COLOR, "maybe")]))
        other = Grammar(command("a", [one("aa", NUMBER), one("bb", NUMBER, default=0)], [("in", NAME, "maybe")]))
        self.assertEqual(safe_line(same_names, call_line(other, "--aa=5 red")), ["--a=5", "red"])
        self.assertEqual(safe_line(same_names, call_line(other, "--bb=3")), ["--b"] * 3)
        for line in ("--aa=6", "x", "--bb=-1", "--bb=12"):
            call = call_line(other, line)
            self.assert_refused(NoWay, {"found": call}, safe_line, same_names, call)
        above = Grammar(command("a", [one("aa", NUMBER), one("bb", NUMBER)], commands=[command("b")]))
        self.assert_refused(NoWay, {"found": call}, safe_line, above, call)
        places = call_line(Grammar(command("a", places=[("in", NAME, "maybe"), ("on", NAME, "rest")])), "")
        self.assert_refused(NoWay, {"found": places}, safe_line,
                            Grammar(command("a", places=[("in", NAME, "one"), ("on", NAME, "rest")])), places)
        self.assert_refused(NoWay, {"found": places}, safe_line,
                            Grammar(command("a", places=[("in", NAME, "maybe"), ("on", NAME, "maybe")])), places)
        self.assertEqual(safe_line(Grammar(command("a", places=[("in", COLOR, "maybe"), ("on", TEXT, "rest")])),
                                   places), [])

    def test_64_against_all_safe_readings(self):
        ways = 0
        for root, reading in some_readings(range(4200, 4230), 2, 2):
            told, chance = Grammar(root, own=OWN), random.Random(repr(reading))
            for room in ({}, {"room": "1"}):
                try:
                    call = called(told, reading, room=room)
                except (Lacks, Unread):
                    continue
                for rooms, books in (((), False), (("room",), False), (("no", "on", "size"), False), ((), True)):
                    lengths = [tried_shortest(root, found) for found in safe_readings(root, call, rooms, books)]
                    if not lengths:
                        self.assert_refused(NoWay, {"found": call}, safe_line, told, call, rooms=rooms, books=books)
                        continue
                    ways += 1
                    words = safe_line(told, call, rooms=rooms, books=books)
                    self.assertEqual(length_of(words), min(lengths), (words, rooms, books))
                    self.assert_called_so(told, call, words, rooms, books, chance)
        self.assertGreater(ways, 50)

    def assert_called_so(self, told, call, words, rooms, books, chance):
        """The words are safe, and called as the Call in some rooms and books of the sort."""
        self.assertIs(is_safe(told, call, words, rooms=rooms, books=books), True)
        for _ in range(3):
            room = {name: chance.choice(["yes", "no", "1", "a", "'", "big"]) for name in rooms}
            keys = [(path, option[0]) for path in told.paths() for option in told.command(path)[1]]
            book = {key: (chance.choice(["yes", "1", "a"]),) for key in keys if books}
            self.assertEqual(call_line(told, joined(words), room=room, book=book), call)

    def test_63_what_is_not_safe_is_called_otherwise_somewhere(self):
        told = Grammar(command("a", [flag("aa", "a", source="r"), one("bb", NUMBER, "b", 5, source="s")]))
        for line in ("", "-a", "-b5", "-ab6", "--no-a"):
            call = call_line(told, line)
            for words in ([], ["-a"], ["-b5"], ["-ab6"], ["--no-a"], ["--no-a", "-b5"], ["-ab5"]):
                for rooms in ([], ["r"], ["s"], ["r", "s"]):
                    called_so = True
                    for flag_text in ["yes", "no"] if "r" in rooms else [None]:
                        for number in ["4", "5"] if "s" in rooms else [None]:
                            room = {name: text for name, text in (("r", flag_text), ("s", number)) if text}
                            called_so = called_so and call_line(told, joined(words), room=room) == call
                            for name in list(room):
                                rest = {other: text for other, text in room.items() if other != name}
                                called_so = called_so and call_line(told, joined(words), room=rest) == call
                    self.assertIs(is_safe(told, call, words, rooms=rooms), called_so, (line, words, rooms))

    def test_7_told_lists_are_new_and_calls_stay(self):
        call = call_line(TOOL, "put x")
        before = anew((call.worths(), call.places(), call.whence()))
        safe_line(TOOL, call).clear()
        shortest(TOOL, (("purge",), ((), ()), ())).clear()
        plain_words(TOOL, ["purge"]).clear()
        self.assertEqual(safe_line(TOOL, call), ["put", "x"])
        self.assertEqual(plain_words(TOOL, ["purge"]), ["purge"])
        self.assertEqual((call.worths(), call.places(), call.whence()), before)
        self.assertIs(type(call), Call)


if __name__ == "__main__":
    unittest.main()
