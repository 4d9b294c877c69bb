"""Points 81 to 85: usage rows, pages, facts, and words that go by a row."""

import itertools
import random
import unittest

from callwords.errors import NoGrammar, NoList, NoNumber, NotThere, Wrong
from callwords.grammars import Grammar, goes, sets
from callwords.helping import facts, page, row_for, rows_of, usage, usage_text, words_for
from callwords.reading import read, reads
from callwords.writing import plain_words
from samples import COLOR, NAME, NONE, NUMBER, ODD, OWN, ROOTS, SIZE, TEXT
from samples import command, count, flag, grammar, led, made, made_command, many, one
from things import ANY_THINGS, Refusals
from trying import Walk, is_live, sets_of, tried_reading, vocabulary

TOOL = grammar("tool")
NO_PATHS = [None, True, 5, "", "put", ["put"], ("nosuch",), ("put", "put"), (5,), {}, ((),)]
NO_GRAMMARS = [None, True, "tool", ROOTS["tool"], {}]


def tried_rows(node):
    """All usage rows, by trying each pair of sets of names."""
    names, fitting = [option[0] for option in node[1]], [frozenset(found) for found in sets_of(node)]
    subsets = [frozenset(found) for many in range(len(names) + 1) for found in itertools.combinations(names, many)]
    pairs = []
    for must in subsets:
        for may in subsets:
            lets = {found for found in subsets if must <= found <= must | may}
            if not must & may and lets <= set(fitting):
                pairs.append((must, may, lets))
    best = [(must, may) for must, may, lets in pairs if not any(lets < other for _, _, other in pairs)]
    rows = [tuple(tuple(name for name in names if name in part) for part in pair) for pair in best]
    return sorted(rows, key=lambda row: (len(row[0]), *[[names.index(name) for name in part] for part in row]))


class UsageTests(Refusals):
    """Points 81 and 82."""

    def test_81_rows_in_their_order(self):
        options = [flag("aa"), count("bb"), one("cc", NAME), many("dd", TEXT)]
        for groups, rows in [
            ([], [((), ("aa", "bb", "cc", "dd"))]),
            ([("just", ("cc", "aa"))], [(("aa",), ("bb", "dd")), (("cc",), ("bb", "dd"))]),
            ([("most", ("aa", "cc"))], [((), ("aa", "bb", "dd")), ((), ("bb", "cc", "dd"))]),
            ([("with", ("bb", "dd"))], [((), ("aa", "cc")), (("bb", "dd"), ("aa", "cc"))]),
            ([("needs", ("dd", "aa"))], [((), ("aa", "bb", "cc")), (("aa",), ("bb", "cc", "dd"))]),
            ([("just", ("aa", "bb")), ("with", ("aa", "bb"))], []),
            ([("with", ("aa", "bb")), ("with", ("cc", "dd"))],
             [((), ()), (("aa", "bb"), ()), (("cc", "dd"), ()), (("aa", "bb", "cc", "dd"), ())]),
        ]:
            told = Grammar(command("t", options, groups=groups))
            self.assert_same(usage(told, ()), rows)
        self.assert_same(usage(Grammar(command("t")), ()), [((), ())])
        self.assert_same(usage(Grammar(command("t", [one("aa", NONE), flag("bb")]), own=OWN), ()), [((), ("bb",))])

    def test_81_against_all_pairs_tried(self):
        for number in range(8100, 8200):
            chance = random.Random(number)
            root = made_command(chance, "t", 4, [NAME, NONE], 0)
            told = Grammar(root, own=OWN)
            rows = usage(told, ())
            self.assert_same(rows, tried_rows(root))
            names = [option[0] for option in root[1]]
            for size in range(len(names) + 1):
                for found in itertools.combinations(names, size):
                    letting = [row for row in rows if set(row[0]) <= set(found) <= set(row[0] + row[1])]
                    self.assert_same(row_for(told, (), list(reversed(found))), letting[0] if letting else None)
                    self.assertEqual(bool(letting), found in sets_of(root))

    def test_81_six_options_and_four_groups(self):
        names = ("aa", "bb", "cc", "dd", "ee", "ff")
        for groups in [
            [("most", names)], [("just", names)], [("with", names)], [("needs", names)],
            [("most", names[:3]), ("needs", ("dd", "aa", "ee")), ("with", ("ee", "ff")), ("just", ("bb", "ff"))],
        ]:
            root = command("t", [flag(name) for name in names], groups=groups)
            self.assert_same(usage(Grammar(root), ()), tried_rows(root))

    def test_81_rows_for_a_set(self):
        told = Grammar(command("t", [flag("aa"), flag("bb"), flag("cc")], groups=[("needs", ("aa", "bb"))]))
        self.assert_same(row_for(told, (), []), ((), ("bb", "cc")))
        self.assert_same(row_for(told, (), ("bb", "cc")), ((), ("bb", "cc")))
        self.assert_same(row_for(told, (), ["bb", "aa", "bb"]), (("bb",), ("aa", "cc")))
        self.assert_same(row_for(grammar=told, path=(), names=["aa"]), None)
        self.assert_same(row_for(TOOL, ("pull",), ["no"]), (("no",), ()))
        self.assert_same(row_for(TOOL, ("pull",), []), None)

    def test_82_forms_places_and_kinds(self):
        options = [flag("aa", "a"), flag("bb"), count("cc", "c"), one("dd", NUMBER, "d"), one("ee", COLOR),
                   many("ff", SIZE, "f")]
        places = [("one", NAME, "one"), ("two", TEXT, "maybe"), ("three", NAME, "rest")]
        told = Grammar(command("t", options, places, [("just", ("aa", "ff"))]), own=OWN)
        rows = usage(told, ())
        self.assert_same([usage_text(told, (), row) for row in rows], [
            "> -a, --aa [--bb] [-c, --cc..] [-d, --dd=-3-12] [--ee=red|green|grey] one [two] [three..]",
            "> [--bb] [-c, --cc..] [-d, --dd=-3-12] [--ee=red|green|grey] -f, --ff=<size>.. one [two] [three..]",
        ])
        told = Grammar(command("t", [one("to", NAME), many("by", TEXT, "b")], commands=[
            command("sub", commands=[command("deep", [flag("on", "o")], [("ab", NAME, "some")])])]))
        self.assertEqual(usage_text(told, (), ((), ("to", "by"))), "> [--to=name] [-b, --by=text..] COMMAND")
        self.assertEqual(usage_text(told, ("sub",), ((), ())), "> sub COMMAND")
        self.assertEqual(usage_text(grammar=told, path=("sub", "deep"), row=((), ("on",))), "> sub deep [-o, --on] ab..")
        self.assertEqual(usage_text(Grammar(command("t")), (), ((), ())), ">")
        for low, high, text in [(-9, -3, "-9--3"), (0, 0, "0-0"), (-999999, 999999, "-999999-999999")]:
            told = Grammar(command("t", [one("no", ("number", low, high))], groups=[]))
            self.assertEqual(usage_text(told, (), ((), ("no",))), "> [--no=" + text + "]")

    def test_82_what_is_no_usage_row(self):
        told = Grammar(command("t", [flag("aa"), flag("bb")], groups=[("most", ("aa", "bb"))]))
        for thing in ANY_THINGS + [((), ()), ((), ("aa", "bb")), [(), ("aa",)], ((), ["aa"]), ("aa", ()), (("aa",), ())]:
            self.assert_refuses_found(NotThere, thing, usage_text, told, (), thing)
            self.assert_refuses_found(NotThere, thing, words_for, told, (), thing)

    def test_81_refused(self):
        for ask in (usage, lambda *args: row_for(*args, None), lambda *args: usage_text(*args, None),
                    lambda *args: words_for(*args, None), lambda *args: page(*args, width=None)):
            for thing in NO_GRAMMARS:
                self.assert_refuses_found(NoGrammar, thing, ask, thing, None)
            for thing in NO_PATHS:
                self.assert_refuses_found(NotThere, thing, ask, TOOL, thing)
        for thing in [None, True, "", "loud", {}, ["nosuch"], ["loud", 5], (None,), [["loud"]], ["lo"]]:
            self.assert_refuses_found(NoList, thing, row_for, TOOL, (), thing)

    def test_7_a_told_list_changed_changes_no_answer(self):
        rows = usage(TOOL, ())
        usage(TOOL, ()).clear()
        page(TOOL, ()).clear()
        self.assertEqual(usage(TOOL, ()), rows)
        self.assertTrue(page(TOOL, ()))


class PageTests(Refusals):
    """Points 83 and 84."""

    def assert_facts(self, root, *lines):
        """Just these facts, of each width."""
        told = Grammar(root, own=OWN)
        for width in range(24, 101):
            self.assert_same(facts(page(told, (), width=width)), list(lines))

    def test_83_each_fact(self):
        self.assert_facts(
            command("t", [
                flag("aa", "a", 1, "ra"), count("bb", "b", 3, "rb"), one("cc", NUMBER, "c", -3, False, "rc"),
                one("dd", NAME, None, None, True, "rd"), many("ee", TEXT, "e", ("a b", "", "x'"), "re"),
            ], [("ff", NAME, "one"), ("gg", SIZE, "maybe"), ("hh", COLOR, "rest")], [("most", ("aa", "bb"))]),
            "> [-a, --aa] [-c, --cc=-3-12] [--dd=name] [-e, --ee=text..] ff [gg] [hh..]",
            "> [-b, --bb..] [-c, --cc=-3-12] [--dd=name] [-e, --ee=text..] ff [gg] [hh..]",
            "aa: off by --no-aa; default yes; room ra",
            "bb: at most 9; default 3; room rb",
            "cc: of -3-12; default -3; room rc",
            "dd: of name; needed; room rd",
            "ee: at most 6; of text; default a\\ b '' x\\'; room re",
            "ff: of name",
            "gg: of <size>",
            "hh: at most 30; of red|green|grey",
            "most aa, bb",
        )

    def test_83_facts_that_lack(self):
        self.assert_facts(
            command("t", [flag("aa"), count("bb"), one("cc", NAME), many("ee", TEXT)], [("gg", NAME, "some")]),
            "> [--aa] [--bb..] [--cc=name] [--ee=text..] gg..",
            "aa: off by --no-aa; default no", "bb: at most 9; default 0", "cc: of name", "ee: at most 6; of text",
            "gg: at most 30; of name",
        )
        self.assert_facts(command("t"), ">")

    def test_83_what_stands_in_no_set(self):
        groups = [("just", ("aa", "dd")), ("most", ("aa", "bb")), ("needs", ("cc", "bb", "aa"))]
        self.assert_facts(
            command("t", [flag("aa"), count("bb"), flag("cc", source="room"), one("dd", NONE)], groups=groups),
            "> --aa", "aa: off by --no-aa; default no",
            "cc: off by --no-cc; default no; room room; not in a line",
            "just aa, dd", "most aa, bb", "needs cc, bb, aa",
        )
        self.assert_facts(
            command("t", [flag("aa"), count("bb")], [("at", NONE, "one")], [("just", ("aa", "bb")), ("with", ("aa", "bb"))]),
            "aa: off by --no-aa; default no; not in a line", "at: of <none>", "just aa, bb", "with aa, bb",
        )

    def test_83_commands_that_can_be_gone_to_the_end(self):
        dead = command("dead", places=[("at", NONE, "one")])
        self.assert_facts(
            command("t", commands=[dead, command("on"), command("off", commands=[dead]),
                                   command("up", commands=[dead, command("to")])]),
            "> COMMAND", "command on", "command up",
        )

    def test_83_lines_within_the_width(self):
        told = Grammar(command("t", [one("aa", ("one", ("red", "green", "grey", "white")), "a"), flag("bb")]))
        self.assert_same(page(told, (), width=24), [
            "> [-a, ", "    --aa=red|green|grey|", "    white] [--bb]", "aa: of ", "    red|green|grey|white",
            "bb: off by --no-bb; ", "    default no",
        ])
        self.assert_same(page(told, (), width=39), [
            "> [-a, --aa=red|green|grey|white] ", "    [--bb]", "aa: of red|green|grey|white",
            "bb: off by --no-bb; default no",
        ])
        self.assert_same(page(told, (), width=100), page(told, ()))
        self.assert_same(page(told, ()), page(grammar=told, path=(), width=60))

    def test_83_lines_as_long_as_the_width_and_one_sign_longer(self):
        text = "aaaaaaaa: of " + "b" * 8 + "|ccc"
        told = Grammar(command("t", [one("a" * 8, ("one", ("b" * 8, "ccc")), need=True)]))
        self.assertEqual(facts(page(told, ()))[1], text + "; needed")
        self.assertEqual(page(told, (), width=len(text) + 2)[-2:], ["aaaaaaaa: of bbbbbbbb|ccc; ", "    needed"])
        self.assertEqual(page(told, (), width=len(text) + 8)[-1], text + "; needed")
        self.assertEqual(page(told, (), width=len(text) + 7)[-2:], [text + "; ", "    needed"])

    def test_83_a_line_with_no_blank_within_the_width(self):
        names = tuple(letter * 8 for letter in "abcdefgh")
        told = Grammar(command("t", [one("aa", ("one", names))]))
        word = "[--aa=" + "|".join(names) + "]"
        pieces = ["> "] + ["    " + word[at:at + 20] for at in range(0, len(word), 20)]
        self.assertEqual(page(told, (), width=24)[:len(pieces)], pieces)

    def test_83_blanks_side_by_side(self):
        told = Grammar(command("t", [one("aa", ("text", 20), default=" " * 20)]))
        line = "aa: of text; default '" + " " * 20 + "'"
        for width in range(24, 101):
            lines = page(told, (), width=width)
            self.assertEqual(facts(lines), ["> [--aa=text]", line])
            self.assertTrue(all(len(one) <= width for one in lines))
        self.assertEqual(page(told, (), width=24)[1:], [line[:24], "    " + " " * 18 + "'"])

    def test_83_blanks_of_quoted_words(self):
        words = ["x  " + "y" * 17, " " + "z" * 19]
        told = Grammar(command("t", [many("aa", ("own", "w"), default=tuple(words))]), own={"w": lambda: words})
        line = "aa: at most 6; of <w>; default x\\ \\ " + "y" * 17 + " \\ " + "z" * 19
        self.assert_same(page(told, (), width=24)[1:], [
            "aa: at most 6; of <w>; ", "    default x\\ \\ ", "    " + "y" * 17 + " \\ ", "    " + "z" * 19])
        self.assertEqual(facts(page(told, (), width=24))[1], line)
        gap = Grammar(command("t", [one("aa", ("own", "w"), default="x" * 3 + "  " + "y" * 15)]),
                      own={"w": lambda: ["x" * 3 + "  " + "y" * 15]})
        self.assert_same(page(gap, (), width=25)[1:], ["aa: of <w>; default xxx\\ ", "    \\ " + "y" * 15])
        self.assert_same(page(gap, (), width=24)[1:], ["aa: of <w>; default ", "    xxx\\ \\ ", "    " + "y" * 15])

    def test_83_widths_of_samples(self):
        for number in range(8300, 8330):
            told = Grammar(made(number), own=OWN)
            for path in told.paths():
                whole = facts(page(told, path, width=100))
                for width in (24, 25, 40, 60, 100):
                    lines = page(told, path, width=width)
                    self.assertEqual(facts(lines), whole)
                    self.assertEqual(facts(tuple(lines)), whole)
                    self.assertTrue(all(len(line) <= width for line in lines))
                    for line, further in zip(lines, lines[1:]):
                        if further.startswith("    "):
                            self.assertTrue(line.endswith(" ") or len(line) == width)
                            self.assertTrue(len(line) + len(further) - 4 > width)

    def test_84_facts(self):
        self.assert_same(facts([]), [])
        self.assert_same(facts(("a", "    b", "     c", "   d", "")), ["ab c", "   d", ""])
        self.assert_same(facts(lines=["    a", "    b"]), ["    ab"])
        for thing in [None, True, 5, "a", {}, {"a": "b"}, [5], ["a", None], [["a"]], ("a", b"a")]:
            self.assert_refuses_found(NoList, thing, facts, thing)
        lines = ["a", "    b"]
        facts(lines).append("x")
        self.assertEqual(lines, ["a", "    b"])

    def test_83_refused(self):
        for thing in [None, True, 23, 101, 0, -24, "60", [], 10 ** 29]:
            self.assert_refuses_found(NoNumber, thing, page, TOOL, (), width=thing)
        self.assertTrue(page(TOOL, (), width=24) and page(TOOL, (), width=100))


class RowsTests(Refusals):
    """Point 85."""

    def test_85_rows_of_words(self):
        self.assert_same(rows_of(TOOL, ["-l", "put", "-n", "--fast", "a"]), [
            ((), ((), ("loud", "size", "level"))), (("put",), ((), ("times", "fast", "to")))])
        self.assert_same(rows_of(TOOL, ["put", "-nta", "a"]),
                         [((), ((), ("loud", "size", "level"))), (("put",), (("times",), ("tag", "force", "to")))])
        self.assert_same(rows_of(grammar=TOOL, words=("pull", "--no", "--", "lists", "a")), [
            ((), ((), ("loud", "size", "level"))), (("pull",), (("no",), ())), (("pull", "lists"), ((), ()))])
        told = Grammar(command("t", [flag("on"), flag("off")], groups=[("just", ("on", "off"))]))
        self.assert_same(rows_of(told, ["--no-on", "--off"]), [((), (("off",), ()))])

    def test_85_words_for_a_row(self):
        self.assert_same(words_for(TOOL, ("put",), (("times",), ("tag", "fast", "to"))), ["put", "--times", "a"])
        self.assert_same(words_for(TOOL, ("pull", "list"), (("by", "all"), ())),
                         ["pull", "--color=red", "list", "--by=-x", "--all", "-3"])
        self.assert_same(words_for(TOOL, ("pull", "none"), ((), ())), None)
        self.assert_same(words_for(grammar=TOOL, path=("pull",), row=(("no",), ())), ["pull", "--no", "list", "-3"])
        options = [one("aa", NUMBER), one("bb", COLOR), one("cc", NAME), one("dd", TEXT), many("ee", SIZE), count("ff")]
        told = Grammar(command("t", options, [("p", ODD, "one"), ("q", TEXT, "some")],
                               [("with", tuple(option[0] for option in options))]), own=OWN)
        self.assert_same(words_for(told, (), (("aa", "bb", "cc", "dd", "ee", "ff"), ())), [
            "--aa=-3", "--bb=red", "--cc=a", "--dd=", "--ee=big", "--ff", "--", "-x", ""])
        self.assert_same(words_for(told, (), ((), ())), ["--", "-x", ""])
        told = Grammar(command("t", [], [("p", NAME, "maybe"), ("q", NAME, "rest")]))
        self.assert_same(words_for(told, (), ((), ())), [])
        self.assert_refuses_found(NotThere, ((), ()), words_for, grammar("shut"), (), ((), ()))

    def test_85_none_where_one_above_has_no_set(self):
        shut = [("just", ("on", "off")), ("with", ("on", "off"))]
        root = command("t", [flag("on"), flag("off")], groups=shut, commands=[command("b", [flag("aa")])])
        self.assert_same(words_for(Grammar(root), ("b",), ((), ("aa",))), None)
        root = command("t", [flag("on")], commands=[command("b", [flag("on"), flag("off")], groups=shut)])
        self.assert_same(words_for(Grammar(root), (), ((), ("on",))), None)

    def test_85_each_row_of_a_path_that_goes_to_the_end_has_words(self):
        for number in range(8500, 8560):
            root = made(number)
            told = Grammar(root, own=OWN)
            for path in told.paths():
                above = all(sets(told, path[:at]) for at in range(len(path))) and goes(told, path)
                for row in usage(told, path):
                    words = words_for(told, path, row)
                    self.assertEqual(words is not None, above)
                    if words is not None:
                        self.assertEqual(plain_words(told, words), words)
                        self.assertTrue(reads(told, words))
                        told_path, rows, _ = read(told, words)
                        self.assertEqual(told_path[:len(path)], path)
                        self.assertEqual(tuple(name for name, _ in rows[len(path)]), row[0])
                        self.assertIn((path, row_for(told, path, row[0])), rows_of(told, words))
                        for at in range(len(rows)):
                            if at != len(path):
                                self.assertEqual(tuple(name for name, _ in rows[at]), sets(told, told_path[:at])[0])

    def test_85_each_list_that_reads_goes_by_rows(self):
        for number in range(8600, 8630):
            root, chance = made(number, most=2, levels=1), random.Random(number)
            told = Grammar(root, own=OWN)
            words = led(chance, root, 6, vocabulary(root), Walk(root), is_live)
            reading = tried_reading(root, words)
            if reading is None:
                with self.assertRaises(Wrong):
                    rows_of(told, words)
                continue
            found = rows_of(told, words)
            self.assertEqual([path for path, _ in found], [reading[0][:at] for at in range(len(reading[0]) + 1)])
            for (path, row), given in zip(found, reading[1]):
                on = [name for name, worth in given if told.option(path, name)[2] != "flag" or worth]
                letting = [one for one in tried_rows(told.command(path)) if set(one[0]) <= set(on) <= set(one[0] + one[1])]
                self.assertEqual(row, letting[0])

    def test_85_refused_as_reading(self):
        self.assert_refuses_found(NoGrammar, None, rows_of, None, None)
        for thing in [None, True, "a", [5], ["a"] * 41, {}]:
            self.assert_refuses_found(NoList, thing, rows_of, TOOL, thing)
        with self.assertRaises(Wrong) as caught:
            rows_of(TOOL, ["put", "--lost"])
        self.assertEqual((caught.exception.at, caught.exception.sign), (1, 2))


if __name__ == "__main__":
    unittest.main()
