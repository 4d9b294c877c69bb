"""Points 41 to 46: lists of words, read to just one reading, or refused at the first wrong sign."""

import random
import unittest

from callwords.errors import NoGrammar, NoList, NoWord, Wrong
from callwords.grammars import Grammar
from callwords.reading import is_open, read, reads, shows_reading, wanted
from samples import NAME, NONE, NUMBER, ODD, OWN, ROOTS, SIZE, SMALL_KINDS, TEXT
from samples import command, count, flag, grammar, led, made, many, one, put_otherwise
from things import ANY_THINGS, Refusals, anew
from trying import Walk, is_live, tried_open, tried_reading, tried_wanted, tried_wrong, vocabulary

ASKING = [
    lambda grammar, words: read(grammar, words),
    lambda grammar, words: is_open(grammar, words, ""),
    lambda grammar, words: wanted(grammar, words),
    lambda grammar, words: reads(grammar, words),
    lambda grammar, words: shows_reading(grammar, words, None),
]
TOOL = grammar("tool")
LETTERS = grammar("letters")
NO_WORDS = [
    thing for thing in ANY_THINGS
    if not (isinstance(thing, (list, tuple)) and len(thing) < 41 and all(isinstance(word, str) for word in thing))
] + [["a" * 41], ["a\n"], ["\u00e9"], ["a"] * 41, ("a", "a", "\t"), ["a", b"a"]]


class Reading(Refusals):
    """Tests of what reads and what doesn't."""

    def assert_reads(self, told, words, reading):
        """Just this reading, of a list and of a tuple."""
        before = list(words)
        self.assert_same(read(told, words), reading)
        self.assert_same(read(told, tuple(words)), reading)
        self.assertIs(reads(told, words), True)
        self.assertIs(shows_reading(told, words, reading), True)
        self.assertEqual(words, before)

    def assert_wrong(self, told, words, at, sign, wants):
        """Refused with just these fields; the words wanted there are told, too."""
        self.assert_refused(Wrong, {"at": at, "sign": sign, "words": tuple(wants)}, read, told, words)
        self.assertIs(reads(told, words), False)
        self.assert_same(wanted(told, words[:at]), list(wants))
        for thing in (None, (), ((), (), ()), False):
            self.assertIs(shows_reading(told, words, thing), False)

    def assert_wrong_at(self, told, words, at, sign):
        """Refused with at and sign, whatever is wanted there."""
        with self.assertRaises(Wrong) as caught:
            read(told, words)
        self.assertEqual((caught.exception.at, caught.exception.sign), (at, sign), words)
        self.assertIs(type(caught.exception.words), tuple)


class OptionTests(Reading):
    """Points 41 to 43: words of options."""

    def setUp(self):
        options = [flag("loud", "l"), flag("lower"), count("level", "v"), one("size", NUMBER, "s"),
                   many("tag", TEXT, "t")]
        self.grammar = Grammar(command("a", options))

    def assert_row(self, words, *row):
        """The words read, to these options alone."""
        self.assert_reads(self.grammar, list(words), ((), (tuple(row),), ()))

    def test_41_by_names_and_by_beginnings_that_read(self):
        self.assert_row([])
        self.assert_row(["--loud"], ("loud", 1))
        self.assert_row(["--lou", "--low"], ("loud", 1), ("lower", 1))
        self.assert_row(["--level", "--le"], ("level", 2))
        self.assert_row(["--size=5"], ("size", 5))
        self.assert_row(["--s=0"], ("size", 0))
        self.assert_row(["--s", "-3"], ("size", -3))
        self.assert_row(["--t=", "--tag=a=b", "--ta", "--x"], ("tag", ("", "a=b", "--x")))

    def test_41_flags_turned_off(self):
        self.assert_row(["--no-loud"], ("loud", 0))
        self.assert_row(["--no-lou", "--no-low"], ("loud", 0), ("lower", 0))
        self.assert_wrong_at(self.grammar, ["--no-lo"], 0, 7)
        self.assert_wrong_at(self.grammar, ["--no-level"], 0, 6)
        self.assert_wrong_at(self.grammar, ["--no-"], 0, 5)
        self.assert_wrong_at(self.grammar, ["--no-size=5"], 0, 5)
        self.assert_wrong_at(self.grammar, ["--no-loud="], 0, 9)
        self.assert_wrong_at(self.grammar, ["--no-loud", "--loud"], 1, 4)
        self.assert_wrong_at(self.grammar, ["--no-loud", "-l"], 1, 1)
        self.assert_wrong_at(self.grammar, ["--loud", "--no-loud"], 1, 7)

    def test_41_a_beginning_of_flags_alone_behind_no(self):
        told = Grammar(command("a", [flag("size"), count("sizes"), one("side", NAME)]))
        self.assert_reads(told, ["--no-s"], ((), ((("size", 0),),), ()))
        self.assert_wrong_at(told, ["--s"], 0, 3)
        self.assert_wrong_at(told, ["--si=a"], 0, 4)

    def test_41_letters_joined_and_one_by_one(self):
        self.assert_row(["-l"], ("loud", 1))
        self.assert_row(["-lv", "-v"], ("loud", 1), ("level", 2))
        self.assert_row(["-vvlv"], ("loud", 1), ("level", 3))
        self.assert_row(["-vs5"], ("level", 1), ("size", 5))
        self.assert_row(["-s-3"], ("size", -3))
        self.assert_row(["-s", "-3"], ("size", -3))
        self.assert_row(["-vls", "12"], ("loud", 1), ("level", 1), ("size", 12))
        self.assert_row(["-ta", "-t", "-l", "-t=b", "-lt-t"], ("loud", 1), ("tag", ("a", "-l", "=b", "-t")))
        self.assert_row(["-t", ""], ("tag", ("",)))

    def test_41_letters_that_none_has(self):
        self.assert_wrong_at(self.grammar, ["-x"], 0, 1)
        self.assert_wrong_at(self.grammar, ["-lx"], 0, 2)
        self.assert_wrong_at(self.grammar, ["-l-"], 0, 2)
        self.assert_wrong_at(self.grammar, ["-l5"], 0, 2)
        self.assert_wrong_at(self.grammar, ["-L"], 0, 1)
        self.assert_wrong_at(self.grammar, ["-"], 0, 1)
        self.assert_wrong_at(self.grammar, ["-5"], 0, 1)
        self.assert_wrong_at(self.grammar, [""], 0, 0)
        self.assert_wrong_at(self.grammar, ["-v=1"], 0, 2)

    def test_41_names_that_read_to_none(self):
        self.assert_wrong_at(self.grammar, ["---"], 0, 2)
        self.assert_wrong_at(self.grammar, ["--=5"], 0, 2)
        self.assert_wrong_at(self.grammar, ["--l"], 0, 3)
        self.assert_wrong_at(self.grammar, ["--lo=1"], 0, 4)
        self.assert_wrong_at(self.grammar, ["--loud=1"], 0, 6)
        self.assert_wrong_at(self.grammar, ["--level=1"], 0, 7)
        self.assert_wrong_at(self.grammar, ["--loudly"], 0, 6)
        self.assert_wrong_at(self.grammar, ["--Loud"], 0, 2)
        self.assert_wrong_at(self.grammar, ["--no"], 0, 4)

    def test_41_worths_that_are_none(self):
        self.assert_wrong_at(self.grammar, ["--size=13"], 0, 8)
        self.assert_wrong_at(self.grammar, ["--size=1x"], 0, 8)
        self.assert_wrong_at(self.grammar, ["--size="], 0, 7)
        self.assert_wrong_at(self.grammar, ["--size=-"], 0, 8)
        self.assert_wrong_at(self.grammar, ["--size=-4"], 0, 8)
        self.assert_wrong_at(self.grammar, ["-s05"], 0, 3)
        self.assert_wrong(self.grammar, ["-s", "13"], 1, 1, [NUMBER])
        self.assert_wrong(self.grammar, ["-s", ""], 1, 0, [NUMBER])
        self.assert_wrong(self.grammar, ["-s", "-"], 1, 1, [NUMBER])
        self.assert_wrong(self.grammar, ["-l", "--tag", "abcdef"], 2, 5, [TEXT])
        self.assert_wrong(self.grammar, ["-s", "--"], 1, 1, [NUMBER])

    def test_42_a_flag_and_one_stand_once(self):
        self.assert_wrong_at(self.grammar, ["-l", "-l"], 1, 1)
        self.assert_wrong_at(self.grammar, ["-ll"], 0, 2)
        self.assert_wrong_at(self.grammar, ["--loud", "--lou"], 1, 4)
        self.assert_wrong_at(self.grammar, ["--no-loud", "--no-loud"], 1, 7)
        self.assert_wrong_at(self.grammar, ["-s5", "-s5"], 1, 1)
        self.assert_wrong_at(self.grammar, ["--size=5", "--size"], 1, 2)
        self.assert_wrong_at(self.grammar, ["--size", "5", "--s=5"], 2, 2)
        self.assert_wrong_at(self.grammar, ["-s0", "-s0"], 1, 1)

    def test_42_a_count_of_nine_and_of_ten(self):
        self.assert_row(["-vvvv", "--level", "-vvvv"], ("level", 9))
        self.assert_row(["-" + "v" * 9], ("level", 9))
        self.assert_wrong_at(self.grammar, ["-" + "v" * 10], 0, 10)
        self.assert_wrong_at(self.grammar, ["-" + "v" * 9, "-v"], 1, 1)
        self.assert_wrong_at(self.grammar, ["-" + "v" * 9, "--level"], 1, 3)
        self.assert_wrong_at(self.grammar, ["--level"] * 10, 9, 3)

    def test_42_a_many_of_six_and_of_seven(self):
        self.assert_row(["-ta", "-t", "b", "--tag=c", "--tag", "d", "-te", "-tf"], ("tag", tuple("abcdef")))
        self.assert_wrong_at(self.grammar, ["-ta"] * 7, 6, 1)
        self.assert_wrong_at(self.grammar, ["-ta"] * 6 + ["--tag"], 6, 2)
        self.assert_wrong_at(self.grammar, ["-ta"] * 6 + ["--tag=a"], 6, 2)
        self.assert_wrong_at(self.grammar, ["-ta"] * 6 + ["-t"], 6, 1)

    def test_42_none_waits_at_the_end(self):
        self.assert_wrong(self.grammar, ["-s"], 1, 0, [NUMBER])
        self.assert_wrong(self.grammar, ["--no-loud", "--tag"], 2, 0, [TEXT])
        self.assert_wrong(self.grammar, ["-vt"], 1, 0, [TEXT])

    def test_43_in_the_order_of_the_options(self):
        self.assert_row(["-tb", "-s1", "-v", "--no-low", "-l", "-ta"],
                        ("loud", 1), ("lower", 0), ("level", 1), ("size", 1), ("tag", ("b", "a")))

    def test_41_closed_for_all_that_follows(self):
        self.assert_row(["--"])
        self.assert_row(["-l", "--"], ("loud", 1))
        self.assert_wrong(self.grammar, ["--", "-l"], 1, 0, [])
        self.assert_wrong(self.grammar, ["--", "--"], 1, 0, [])
        self.assert_wrong(self.grammar, ["--", ""], 1, 0, [])
        told = Grammar(command("a", [flag("aa", "a")], [("in", TEXT, "rest")]))
        self.assert_reads(told, ["-a", "--", "-a", "--", "--aa"],
                          ((), ((("aa", 1),),), (("in", ("-a", "--", "--aa")),)))
        self.assert_reads(told, ["x", "-a", "--"], ((), ((("aa", 1),),), (("in", ("x",)),)))
        self.assert_reads(told, ["-", "-1", "-=", "-A", "- a"], ((), ((),), (("in", ("-", "-1", "-=", "-A", "- a")),)))

    def test_41_what_waits_takes_any_word(self):
        self.assert_row(["-t", "--", "-t", "-l", "-t", "--tag"], ("tag", ("--", "-l", "--tag")))

    def test_42_an_own_kind_without_words(self):
        told = Grammar(command("a", [one("go", NONE, "g"), many("to", NONE, "t"), flag("on")]), own=OWN)
        self.assert_wrong(told, ["--go"], 0, 2, ["--on", "--no-on", "--"])
        self.assert_wrong_at(told, ["-g"], 0, 1)
        self.assert_wrong_at(told, ["--to="], 0, 2)


class CommandTests(Reading):
    """Points 41 to 44: commands, and what stands above them."""

    def test_41_names_and_beginnings_that_read(self):
        self.assert_reads(TOOL, ["put", "x"], (("put",), ((), ()), (("what", "x"),)))
        self.assert_reads(TOOL, ["put", "-n", "x"], (("put",), ((), (("times", 1),)), (("what", "x"),)))
        self.assert_reads(TOOL, ["pur"], (("purge",), ((), ()), ()))
        self.assert_reads(TOOL, ["pul", "-cred", "lists", "a"],
                          (("pull", "lists"), ((), (("color", "red"),), ()), (("row", "a"),)))
        self.assert_reads(TOOL, ["pull", "--no", "list", "1"],
                          (("pull", "list"), ((), (("no", 1),), ()), (("rows", (1,)),)))

    def test_41_what_reads_to_no_command(self):
        wants = ["--loud", "-l", "--no-loud", "--size", "-s", "--level", "-v", "--", "put", "pull", "purge"]
        self.assert_wrong(TOOL, ["pu"], 0, 2, wants)
        self.assert_wrong(TOOL, ["x"], 0, 0, wants)
        self.assert_wrong(TOOL, [""], 0, 0, wants)
        self.assert_wrong(TOOL, ["puts"], 0, 3, wants)
        self.assert_wrong(TOOL, ["-", "put"], 0, 1, wants)
        self.assert_wrong(TOOL, [], 0, 0, wants)
        self.assert_wrong(TOOL, ["Put"], 0, 0, wants)

    def test_42_a_command_at_hand_that_has_commands(self):
        self.assert_wrong(TOOL, ["-l"], 1, 0, ["--size", "-s", "--level", "-v", "--", "put", "pull", "purge"])
        self.assert_wrong(TOOL, ["pull"], 1, 0, ["--color", "-c", "--no", "--no-no"])
        self.assert_wrong(TOOL, ["pull", "--no"], 2, 0, ["--", "list", "lists"])

    def test_42_a_command_that_leads_to_no_end_is_not_named(self):
        self.assert_wrong_at(TOOL, ["pull", "--no", "none"], 2, 0)
        self.assert_wrong_at(TOOL, ["pull", "--no", "l"], 2, 1)
        self.assert_wrong_at(TOOL, ["pull", "list"], 1, 0)
        self.assert_wrong_at(TOOL, ["pull", "--no-no", "list"], 2, 0)
        self.assert_reads(TOOL, ["pull", "--no-no", "-cred", "lists", "a"],
                          (("pull", "lists"), ((), (("color", "red"), ("no", 0)), ()), (("row", "a"),)))

    def test_41_options_belong_to_the_command_at_hand(self):
        self.assert_wrong_at(TOOL, ["put", "-l"], 1, 1)
        self.assert_wrong_at(TOOL, ["-t", "put"], 0, 1)
        self.assert_reads(TOOL, ["-v", "put", "-n", "x"],
                          (("put",), ((("level", 1),), (("times", 1),)), (("what", "x"),)))

    def test_41_closed_above_is_closed_beneath(self):
        self.assert_wrong(TOOL, ["--", "put", "-n"], 2, 0, [NAME])
        self.assert_reads(TOOL, ["--", "put", "x", "-x"], (("put",), ((), ()), (("what", "x"), ("where", "-x"))))
        self.assert_wrong(TOOL, ["--", "pull"], 1, 2, ["put", "purge"])
        told = Grammar(command("a", [flag("on")], commands=[command("b", [flag("c" * 2)])]))
        self.assert_reads(told, ["--on", "--", "b"], (("b",), ((("on", 1),), ()), ()))

    def test_42_groups(self):
        self.assert_wrong_at(TOOL, ["put", "-f", "--fast"], 2, 2)
        self.assert_reads(TOOL, ["put", "-f", "--no-fast", "x"],
                          (("put",), ((), (("force", 1), ("fast", 0))), (("what", "x"),)))
        wants = ["--tag", "-t", "--times", "-n", "--force", "-f", "--no-force", "--fast", "--no-fast", "--to", ODD]
        self.assert_wrong(TOOL, ["put", "-ta", "x"], 3, 0, wants)
        self.assert_reads(TOOL, ["put", "-ta", "x", "-n"],
                          (("put",), ((), (("tag", ("a",)), ("times", 1))), (("what", "x"),)))
        self.assert_wrong_at(TOOL, ["put", "-ta", "--", "x"], 2, 2)
        self.assert_wrong_at(TOOL, ["pull", "--no", "list", "-a", "1"], 5, 0)
        self.assert_wrong_at(TOOL, ["pull", "--no", "--no-no"], 2, 2)

    def test_42_flags_that_are_off_stand_in_no_set(self):
        told = Grammar(command("a", [flag("on"), flag("off")], groups=[("just", ("on", "off"))]))
        self.assert_reads(told, ["--no-on", "--off"], ((), ((("on", 0), ("off", 1)),), ()))
        self.assert_wrong(told, ["--no-on"], 1, 0, ["--off"])
        self.assert_wrong(told, ["--no-on", "--no-off"], 1, 2, ["--off"])
        self.assert_wrong(told, [], 0, 0, ["--on", "--no-on", "--off", "--no-off"])
        self.assert_wrong(told, ["--"], 0, 2, ["--on", "--no-on", "--off", "--no-off"])

    def test_44_where_no_list_reads_both_are_0(self):
        shut = ROOTS["shut"]
        roots = [shut, command("a", commands=[shut]),
                 shut[:2] + ((("in", NAME, "one"), ("out", TEXT, "rest")),) + shut[3:]]
        for kind in (NONE, ODD):
            roots.append(command("a", [flag("on", "o")], [("in", kind, "one"), ("out", NONE, "one")]))
        for root in roots:
            told = Grammar(root, own=OWN)
            for words in ([], ["no"], ["--on"], ["--on", "--off"], [""], ["--"]):
                self.assert_wrong(told, words, 0, 0, [])
                self.assertEqual(wanted(told, words), [])
                self.assertIs(is_open(told, words, ""), False)
                self.assertIs(is_open(told, words, "a"), False)


class PlaceTests(Reading):
    """Points 41 to 43: words of places."""

    def test_43_places_that_have_any(self):
        told = grammar("places")
        some = (("one", "a"), ("two", "red"))
        self.assert_reads(told, ["a", "red"], ((), ((),), some))
        self.assert_reads(told, ["a", "red", "0"], ((), ((),), some + (("few", 0),)))
        self.assert_reads(told, ["a", "red", "-3", "", "-1"], ((), ((),), some + (("few", -3), ("rest", ("", "-1")))))
        self.assert_wrong(told, ["a", "red", "x"], 2, 0, ["--", NUMBER])
        self.assert_wrong(told, ["a"], 1, 0, ["--", ("one", ("red", "green", "grey"))])
        self.assert_wrong(told, ["a", "gre"], 1, 3, ["--", ("one", ("red", "green", "grey"))])
        self.assert_wrong(told, [], 0, 0, ["--", NAME])

    def test_42_some_wants_one_at_least(self):
        told = grammar("some")
        self.assert_wrong(told, [], 0, 0, ["--force", "-f", "--no-force", "--", ODD])
        self.assert_wrong(told, ["--"], 1, 0, [ODD])
        self.assert_reads(told, ["-1"], ((), ((),), (("files", ("-1",)),)))
        self.assert_reads(told, ["--", "-x", "--", "--size=1"], ((), ((),), (("files", ("-x", "--", "--size=1")),)))
        self.assert_wrong_at(told, ["-x"], 0, 1)
        self.assert_wrong_at(told, ["-1", "--size=1"], 1, 2)

    def test_42_thirty_and_thirty_one_words(self):
        for times in ("rest", "some"):
            told = Grammar(command("a", [flag("on")], [("a", NAME, "one"), ("b", NUMBER, times)]))
            words = ["x"] + ["5"] * 30
            self.assert_reads(told, words, ((), ((),), (("a", "x"), ("b", (5,) * 30))))
            self.assert_wrong(told, words + ["5"], 31, 0, ["--on", "--no-on", "--"])
            self.assert_wrong(told, words + ["--", "5"], 32, 0, [])
            self.assert_reads(told, words + ["--on", "--"], ((), ((("on", 1),),), (("a", "x"), ("b", (5,) * 30))))

    def test_41_more_words_than_places(self):
        told = Grammar(command("a", places=[("a", NAME, "one"), ("b", NAME, "maybe")]))
        self.assert_reads(told, ["x", "y"], ((), ((),), (("a", "x"), ("b", "y"))))
        self.assert_wrong(told, ["x", "y", "z"], 2, 0, ["--"])
        self.assert_wrong(told, ["--", "x", "y", "z"], 3, 0, [])
        self.assert_wrong(grammar("bare"), ["a"], 0, 0, ["--"])
        self.assert_reads(grammar("bare"), [], ((), ((),), ()))
        self.assert_reads(grammar("bare"), ["--"], ((), ((),), ()))

    def test_45_a_place_of_which_no_word_is_taken_as_such(self):
        told = grammar("dash")
        self.assert_same(wanted(told, []), ["--go", "-g", "--no-go", "--gone", "--no-gone", "--"])
        self.assert_same(wanted(told, ["--"]), [("own", "dash")])
        self.assert_same(wanted(told, ["--", "-a"]), [])
        self.assert_wrong_at(told, ["-a"], 0, 1)
        self.assert_wrong(told, ["--", "-a", "x"], 2, 0, [])
        self.assert_reads(told, ["-g", "--", "--b"], ((), ((("go", 1),),), (("in", "--b"),)))

    def test_42_forty_words(self):
        told = Grammar(command("a", [many("aa", NAME, "a"), count("bb", "b")], [("in", NAME, "rest")]))
        words = ["-b"] * 9 + ["x"] * 30 + ["--"]
        self.assert_reads(told, words, ((), ((("bb", 9),),), (("in", ("x",) * 30),)))
        self.assertEqual(len(words), 40)


class OpenTests(Reading):
    """Points 44 and 45: beginnings."""

    def test_44_forty_words_and_forty_signs_play_no_part(self):
        told = Grammar(command("a", [count("a" + letter, letter) for letter in "abcde"] + [one("go", ("text", 20), "g",
            need=True)],
                               [("in", NAME, "rest")]))
        letters = "".join([letter * 9 for letter in "abcde"])
        self.assertIs(is_open(told, [], "-" + letters[:39]), True)
        self.assertIs(is_open(told, [], "-" + letters[:38] + "g"), True)
        self.assertIs(is_open(told, [], "-" + letters[:10] + "g" + "x" * 20), True)
        self.assertIs(is_open(told, [], "-" + letters[:10] + "g" + "x" * 21), False)
        full = ["x"] * 30 + ["-a"] * 9 + ["-g"]
        self.assertEqual(len(full), 40)
        self.assertIs(is_open(told, full, "abc"), True)
        self.assertEqual(wanted(told, full), [("text", 20)])
        self.assert_wrong(told, full, 40, 0, [("text", 20)])
        needing = Grammar(command("a", [count("a" + letter, letter) for letter in "abcde"] + [flag("ok", "k")],
                                  groups=[("just", ("aa", "ok"))]))
        self.assertIs(is_open(needing, [], "-" + letters[9:] + "a" * 3), True)
        self.assertIs(is_open(needing, [], "-" + letters[:9] + "k"), False)

    def test_44_a_whole_list_is_open_where_it_goes_on(self):
        self.assertIs(is_open(TOOL, ["put", "x"], ""), True)
        self.assertIs(is_open(TOOL, ["--", "purge"], ""), False)
        self.assertIs(is_open(TOOL, ["purge"], ""), True)
        self.assertIs(is_open(TOOL, ["purge"], "--"), True)
        self.assertIs(is_open(TOOL, ["purge"], "---"), False)
        self.assertIs(is_open(TOOL, ["x"], ""), False)

    def test_44_beginnings_of_worths(self):
        for begun, wants in (("--size=1", True), ("--size=13", False), ("--size=-", True), ("--si=-3", True),
                             ("-s-", True),
                             ("-vs1", True), ("-vs1x", False), ("--size", True), ("--sizes", False),
                             ("--level=", False)):
            self.assertIs(is_open(TOOL, [], begun), wants, begun)
        self.assertIs(is_open(TOOL, ["put", "--to"], "s"), True)
        self.assertIs(is_open(TOOL, ["put", "--to"], "small"), True)
        self.assertIs(is_open(TOOL, ["put", "--to"], "smalls"), False)
        self.assertIs(is_open(TOOL, ["put", "--to=smal"], ""), False)

    def test_44_a_word_that_would_be_taken_otherwise(self):
        told = grammar("some")
        self.assertIs(is_open(told, [], "-x"), False)
        self.assertIs(is_open(told, ["--"], "-x"), True)
        self.assertIs(is_open(told, [], "-1"), True)
        self.assertIs(is_open(told, [], "--size"), False)
        self.assertIs(is_open(told, ["--"], "--size"), True)

    def test_44_where_options_are_needed_beneath(self):
        beneath = command("b", [flag("on", "o"), flag("off")], groups=[("just", ("on", "off"))])
        told = Grammar(command("a", commands=[beneath, command("c", commands=[beneath])]))
        self.assert_same(wanted(told, []), ["b", "c"])
        self.assertIs(is_open(told, [], ""), True)
        self.assertIs(is_open(told, [], "-"), False)
        self.assert_wrong(told, ["--", "b"], 0, 0, ["b", "c"])
        self.assert_wrong(told, ["-"], 0, 0, ["b", "c"])
        self.assert_reads(told, ["c", "b", "-o"], (("c", "b"), ((), (), (("on", 1),)), ()))
        self.assert_wrong(told, ["c", "--", "b"], 1, 0, ["b"])
        self.assert_wrong(told, ["b", "--"], 1, 2, ["--on", "-o", "--no-on", "--off", "--no-off"])
        bare = Grammar(command("a", commands=[beneath, command("c")]))
        self.assert_same(wanted(bare, []), ["--", "b", "c"])
        self.assert_wrong(bare, ["--", "b"], 1, 0, ["c"])
        self.assert_reads(bare, ["--", "c"], (("c",), ((), ()), ()))

    def test_44_an_option_that_a_group_bars(self):
        told = Grammar(command("a", [one("aa", NUMBER, "a"), one("bb", TEXT, "b")], groups=[("most", ("aa", "bb"))]))
        for begun in ("--bb=", "--bb=x", "--b", "-b", "-bx"):
            self.assertIs(is_open(told, [], begun), True)
            self.assertIs(is_open(told, ["--aa=0"], begun), False)
            self.assertIs(is_open(told, ["-a"], begun), False)
        self.assert_wrong_at(told, ["-a0", "--bb=x"], 1, 2)
        self.assert_wrong_at(told, ["-a0", "-bx"], 1, 1)
        self.assert_wrong(told, ["-a0", "-"], 1, 1, ["--"])
        just = Grammar(command("a", [one("aa", NUMBER, "a"), flag("bb", "b")], groups=[("just", ("aa", "bb"))]))
        self.assert_reads(just, ["-a0"], ((), ((("aa", 0),),), ()))
        self.assert_reads(just, ["-b"], ((), ((("bb", 1),),), ()))
        self.assert_wrong_at(just, ["-a0", "-b"], 1, 1)
        self.assert_wrong(just, [], 0, 0, ["--aa", "-a", "--bb", "-b", "--no-bb"])

    def test_45_where_an_option_waits_its_kind_alone(self):
        self.assert_same(wanted(TOOL, ["-s"]), [NUMBER])
        self.assert_same(wanted(TOOL, ["-lvs"]), [NUMBER])
        self.assert_same(wanted(TOOL, ["put", "--to"]), [SIZE])

    def test_45_in_order(self):
        wants = ["--tag", "-t", "--times", "-n", "--force", "-f", "--no-force", "--fast", "--no-fast", "--to", "--",
                 NAME]
        self.assert_same(wanted(TOOL, ["put"]), wants)
        self.assert_same(wanted(TOOL, ["put", "x"]), wants[:-1] + [ODD])
        self.assert_same(wanted(TOOL, ["put", "x", "--", "--"]), [("text", 20)])
        self.assert_same(wanted(TOOL, ["put", "-f", "x"]), wants[:4] + ["--no-fast", "--to", "--", ODD])

    def test_45_none_where_the_words_begin_no_list_that_reads(self):
        for words in (["x"], ["put", "-f", "--fast"], ["-s", "x"], ["put", "x", "--no-x"]):
            self.assert_same(wanted(TOOL, words), [])
            self.assertIs(reads(TOOL, words), False)

    def test_7_a_told_list_changed_changes_no_answer(self):
        told = wanted(TOOL, ["put"])
        before = anew(told)
        told.clear()
        self.assertEqual(wanted(TOOL, ["put"]), before)


class TriedTests(Reading):
    """Points 41 to 46, against the tests' own reader."""

    def assert_as_tried(self, root, words, begun):
        """All that is asked of words is as tried."""
        told = Grammar(root, own=OWN)
        reading = tried_reading(root, words)
        if reading is None:
            self.assert_refused(Wrong, dict(zip(("at", "sign", "words"), tried_wrong(root, words))), read, told, words)
        else:
            self.assert_reads(told, words, reading)
        self.assertIs(reads(told, words), reading is not None)
        self.assert_same(wanted(told, words), tried_wanted(root, words))
        for text in begun:
            self.assertIs(is_open(told, words, text), tried_open(root, words, text), (words, text))

    def test_9_small_grammars_made_by_chance(self):
        for number in range(2000, 2040):
            root, chance = made(number, most=2, kinds=SMALL_KINDS, levels=1), random.Random(number)
            for _ in range(5):
                words = put_otherwise(chance, led(chance, root, 5, vocabulary(root), Walk(root), is_live))
                begun = [word[:chance.randint(0, len(word))] for word in words[-2:]]
                self.assert_as_tried(root, words, begun + ["", chance.choice(["-", "--", "--n", "n", "1", "-1"])])

    def test_9_samples(self):
        for name in ("places", "some", "dash", "shut"):
            root, chance = ROOTS[name], random.Random(name)
            for _ in range(12):
                words = put_otherwise(chance, led(chance, root, 6, vocabulary(root), Walk(root), is_live))
                self.assert_as_tried(root, words, ["", "-"] + [word[:2] for word in words[-1:]])

    def test_9_each_wanted_word_leads_on(self):
        for number in range(2100, 2130):
            told = Grammar(made(number, kinds=SMALL_KINDS), own=OWN)
            words, chance = [], random.Random(number)
            for _ in range(8):
                found = [word for word in wanted(told, words) if isinstance(word, str)]
                for word in found:
                    self.assertIs(is_open(told, words, word), True)
                    self.assertTrue(reads(told, words + [word]) or is_open(told, words + [word], ""))
                if not found:
                    break
                words.append(chance.choice(found))


class RefusedTests(Reading):
    """Point 46, and 8."""

    def test_46_no_grammar(self):
        for thing in ANY_THINGS + [ROOTS["bare"]]:
            for ask in ASKING:
                self.assert_refuses_found(NoGrammar, thing, ask, thing, None)
        self.assert_refuses_found(NoGrammar, (), is_open, (), ["a"] * 41, None)

    def test_46_no_list_of_words(self):
        for thing in NO_WORDS:
            for ask in ASKING:
                self.assert_refuses_found(NoList, thing, ask, TOOL, thing)
            self.assert_refuses_found(NoList, thing, is_open, TOOL, thing, 5)

    def test_44_no_word_begun(self):
        for thing in [thing for thing in ANY_THINGS if not isinstance(thing, str)] + ["a" * 41, "\n", "\u00e9", "a\tb"]:
            self.assert_refuses_found(NoWord, thing, is_open, TOOL, [], thing)
            self.assert_refuses_found(NoWord, thing, is_open, grammar("shut"), ["x"], begun=thing)

    def test_46_the_reading_of_the_words_ahead_is_none_of_all(self):
        bare, places = grammar("bare"), grammar("places")
        self.assertIs(shows_reading(bare, ["a"], read(bare, [])), False)
        self.assertIs(shows_reading(bare, ["--", "-x"], read(bare, ["--"])), False)
        self.assertIs(shows_reading(places, ["a", "red", "12", "--x"], read(places, ["a", "red", "12"])), False)
        self.assertIs(shows_reading(places, ["a"], ((), ((),), (("one", "a"),))), False)
        self.assertIs(shows_reading(places, ["a", "red"], read(places, ["a", "red"])), True)

    def test_46_any_thing_is_the_reading_or_not(self):
        words = ["-l", "put", "-ta", "-n", "x", "--", "-x"]
        told = (("put",), ((("loud", 1),), (("tag", ("a",)), ("times", 1))), (("what", "x"), ("where", "-x")))
        self.assertIs(shows_reading(TOOL, words, told), True)
        self.assertIs(shows_reading(TOOL, words, anew(told)), True)
        for thing in ANY_THINGS + [
            list(told), (["put"], told[1], told[2]), (told[0], list(told[1]), told[2]),
            (told[0], told[1], list(told[2])),
            (told[0], ((("loud", True),), told[1][1]), told[2]), (told[0], ((("loud", 1),),), told[2]), told + ((),),
            told[:2],
            (told[0], (told[1][0], (("times", 1), ("tag", ("a",)))), told[2]),
            (told[0], ((["loud", 1],), told[1][1]), told[2]),
            (told[0], (told[1][0], (("tag", ["a"]), ("times", 1))), told[2]),
            (told[0], told[1], told[2] + (("more", ()),)),
            (told[0], (told[1][0], (("tag", ("a",)), ("times", True))), told[2]), (told[0], told[1], told[2][:1]),
            ((), told[1], told[2]), (told[0], ((("loud", "1"),), told[1][1]), told[2]), TOOL,
            (told[0], ((("loud", 0),), told[1][1]), told[2]), (told[0], told[1], (("what", "y"), ("where", "-x"))),
            (("pull",), told[1], told[2]), (told[0], ((("size", 1),), told[1][1]), told[2]), NoWord("a"),
            (told[0], told[1], (("what", None), ("where", "-x"))), (told[0], told[1], (("what", "x"), "where")),
        ]:
            self.assertIs(shows_reading(TOOL, words, thing), False, thing)

    def test_6_by_names(self):
        self.assertEqual(read(grammar=TOOL, words=["purge"]), (("purge",), ((), ()), ()))
        self.assertIs(is_open(grammar=TOOL, words=["put"], begun="x"), True)
        self.assertEqual(wanted(grammar=TOOL, words=["-s"]), [NUMBER])
        self.assertIs(reads(grammar=TOOL, words=["purge"]), True)
        self.assertIs(shows_reading(grammar=TOOL, words=["purge"], thing=(("purge",), ((), ()), ())), True)

    def test_7_what_is_handed_in_stays(self):
        words = ["put", "-ta", "x"]
        for ask in ASKING[1:]:
            ask(TOOL, words)
        self.assertEqual(words, ["put", "-ta", "x"])

    def test_9_with_letters_exchanged(self):
        swap = str.maketrans("abcdefghijklmpqrstuvwxyz", "zyxwvutsrqpmlkjihgfedcba")

        def swapped(thing):
            if isinstance(thing, str):
                return thing.translate(swap)
            return type(thing)([swapped(part) for part in thing]) if isinstance(thing, (list, tuple)) else thing

        root = command("tool", [flag("loud", "l"), many("site", NAME, "s", ("ab",))], [("in", NAME, "some")])
        other = command("tool".translate(swap), [flag("loud".translate(swap), "m"),
                                                 many("site".translate(swap), NAME, "h", ("zy",))],
                        [("in".translate(swap), NAME, "some")])
        for words in (["-lsab", "x"], ["--no-lo", "--si", "y", "z"], ["--site=ab", "x", "-s", "q"]):
            self.assertEqual(read(Grammar(other), swapped(words)), swapped(read(Grammar(root), words)))


if __name__ == "__main__":
    unittest.main()
