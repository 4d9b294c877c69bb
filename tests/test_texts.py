"""Points 121 and 122: grammars as texts."""

import random
import unittest

from callwords.errors import NoGrammar, NoOwn, NoRow, NoText, Unfit
from callwords.grammars import Grammar
from callwords.texts import grammar_text, read_grammar
from samples import COLOR, NAME, NUMBER, OWN, ROOTS, SIZE, TEXT, command, count, flag, grammar, made, many, one
from things import ANY_THINGS, Refusals

WHOLE = command("tool", [
    flag("aa", "a", 1, "ra"), count("bb", None, 9), one("cc", NUMBER, "c", -3, source="rc"), one("dd", COLOR, need=True, source="rd"),
    many("ee", TEXT, "e", ("a b", "", "x'")), one("ff", ("own", "odd"), default="--size=1"),
], commands=[
    command("put", [one("gg", NAME, "g", need=True)],
            [("what", NAME, "one"), ("where", SIZE, "maybe"), ("more", ("number", 0, 5), "rest")]),
    command("pull", [flag("hh"), flag("ii")], [], [("most", ("hh", "ii")), ("needs", ("ii", "hh"))],
            [command("list", places=[("row", ("text", 20), "some")])]),
    command("last"),
])
TEXT_OF_WHOLE = """name tool
command
option aa flag -a room ra default 1
option bb count default 9
option cc one -c number -3 12 room rc default -3
option dd one one red|green|grey room rd need
option ee many -e text 5 default a\\ b '' x\\'
option ff one own odd default --size=1
command put
option gg one -g name need
place what one name
place where maybe own size
place more rest number 0 5
command pull
option hh flag default 0
option ii flag default 0
group most hh ii
group needs ii hh
command pull list
place row some text 20
command last"""


class WrittenTests(Refusals):
    """Point 121."""

    def test_121_each_form(self):
        self.assert_same(grammar_text(Grammar(WHOLE, own=OWN)), TEXT_OF_WHOLE)
        self.assert_same(grammar_text(grammar=Grammar(command("a"))), "name a\ncommand")

    def test_121_what_lacks(self):
        told = Grammar(command("a", [one("aa", NAME), many("bb", NAME), count("cc"), flag("dd", "d", source="room")]))
        self.assertEqual(grammar_text(told), "name a\ncommand\noption aa one name\noption bb many name\noption cc count default 0\n"
                                             "option dd flag -d room room default 0")

    def test_121_refused(self):
        for thing in [None, True, WHOLE, "name a", {}]:
            self.assert_refuses_found(NoGrammar, thing, grammar_text, thing)


class ReadTests(Refusals):
    """Point 122."""

    def assert_row(self, at, *rows, own=None):
        """Refused with NoRow of this number."""
        self.assert_refused(NoRow, {"at": at}, read_grammar, "\n".join(rows), own=own)

    def test_122_what_is_written_is_read_as_an_equal_one(self):
        for name in ROOTS:
            told = grammar(name)
            self.assertEqual(read_grammar(grammar_text(told), own=OWN), told)
        self.assertEqual(read_grammar(text=TEXT_OF_WHOLE, own=OWN).root(), WHOLE)
        for number in range(12200, 12300):
            root = made(number, most=5)
            told = Grammar(root, own=OWN)
            self.assert_same(read_grammar(grammar_text(told), own=OWN).root(), root)

    def test_122_rows_in_any_order_within_a_command(self):
        for number in range(12300, 12340):
            root, chance = made(number, most=4), random.Random(number)
            told = Grammar(root, own=OWN)
            first, *blocks = grammar_text(told).split("\ncommand")
            rows = [first]
            for block in blocks:
                head, *parts = block.split("\n")
                kinds = {word: [row for row in parts if row.startswith(word)] for word in ("option", "place", "group")}
                rows.append("command" + head)
                while any(kinds.values()):
                    rows.append(kinds[chance.choice([word for word in kinds if kinds[word]])].pop(0))
                    rows += chance.choice([[], [""], ["  "]])
            self.assertEqual(read_grammar("\n".join(rows), own=OWN).root(), root)

    def test_122_commands_in_any_order_behind_those_above(self):
        text = "name a\ncommand\ncommand b\ncommand c\ncommand b d\ngroup most ee ff\noption ee flag\noption ff flag\ncommand c e\ncommand b f"
        self.assertEqual(read_grammar(text).root(), command("a", commands=[
            command("b", commands=[command("d", [flag("ee"), flag("ff")], groups=[("most", ("ee", "ff"))]), command("f")]),
            command("c", commands=[command("e")])]))

    def test_122_blanks_quotes_and_rows_without_words(self):
        text = "\n  name   'a' \n\n \"command\"\n op\\tion aa o'n'e  text 20   default 'a b'\n\n place  bb maybe name \n"
        self.assertEqual(read_grammar(text).root(), command("a", [one("aa", ("text", 20), default="a b")], [("bb", NAME, "maybe")]))

    def test_122_without_a_default(self):
        text = "name a\ncommand\noption aa flag\noption bb count\noption cc one name\noption dd many name\noption ee many name default"
        self.assertEqual(read_grammar(text).root(), command("a", [
            flag("aa"), count("bb"), one("cc", NAME), many("dd", NAME), many("ee", NAME)]))

    def test_122_rows_of_no_form(self):
        for row in [
            "#", "# x", "names", "Option aa flag", "option", "option aa", "option a flag", "option Aa flag", "option aaaaaaaaa flag",
            "option aa flags", "option aa flag name", "option aa flag -", "option aa flag -ab", "option aa flag -A", "option aa flag a",
            "option aa flag need", "option aa flag room", "option aa flag room A", "option aa flag room r room r",
            "option aa flag default", "option aa flag default x", "option aa flag default 00", "option aa flag default 0 0",
            "option aa flag default 0 room r", "option aa flag room r -a", "option aa count need", "option aa many name need",
            "option aa one", "option aa one -a", "option aa one nam", "option aa one name -a", "option aa one number", "option aa one number 1",
            "option aa one number 2 1", "option aa one number 01 2", "option aa one number 0 1000000", "option aa one number 0 1 2",
            "option aa one one", "option aa one one a|a", "option aa one one a|", "option aa one one a|B", "option aa one one |",
            "option aa one one a|b|c|d|e|f|g|h|i", "option aa one text", "option aa one text 0", "option aa one text 21",
            "option aa one own", "option aa one own A", "option aa one name need room r", "option aa one name need need",
            "option aa one name need default a", "option aa one name default", "option aa one name default A",
            "option aa one name default a b", "option aa one number 0 9 default 10", "option aa one number 0 9 default x",
            "option aa one text 2 default abc", "option aa one own x default ''", "option aa one own x default " + "a" * 21,
            "option aa many number 0 9 default 1 2 x", "option aa many one a|b default a c", "option 'a", "option aa flag \\",
            "option aa flag " + "a" * 41, "option" + " a" * 40,
            "place", "place bb", "place bb one", "place bb ones name", "place bb one name name", "place B one name", "place bb one text 0",
            "place bb one -b name", "place bb name one", "group", "group most", "group most aa", "group most aa aa", "group Most aa bb",
            "group most aa B", "group most" + " aa bb cc dd ee ff gg", "name a", "name", "command", "command c d", "command B",
            "command b", "place bb one own",
        ]:
            self.assert_row(6, "name a", "", "command", "command b", "", "option zz flag", row, "#")
        for row in ["option aa one own x default a", "option aa flag default 1", "place aa one own x", "command c", "command b c",
                    "option aa many number 0 9 default 1 2 3", "option aa one one a|b|c|d|e|f|g|h", "option aa one -a name room r need"]:
            self.assert_row(6, "name a", "", "command", "command b", "", row, "#")

    def test_122_rows_where_none_such_may_stand(self):
        for row in ["command", "option aa flag", "place aa one name", "group most aa bb", "command b", "nam a", "name", "name a b", "name A",
                    "#", "'"]:
            self.assert_row(1, "", row, "name a", "command")
        for row in ["name a", "option aa flag", "place aa one name", "group most aa bb", "command b", "commands", "x", "\\"]:
            self.assert_row(2, "name a", "", row, "command")

    def test_122_what_lacks(self):
        self.assert_row(1, "")
        self.assert_row(3, "", "", " ")
        self.assert_row(1, "name a")
        self.assert_row(4, "", "name a", "", "")
        self.assertEqual(read_grammar("name a\ncommand").root(), command("a"))

    def test_122_unfit_behind_all_rows(self):
        def unfit(where, why, *rows, own=None):
            with self.assertRaises(Unfit) as caught:
                read_grammar("\n".join(("name a", "command") + rows), own=own)
            self.assertEqual((caught.exception.where, caught.exception.why), (where, why))
        unfit((), "default", "option aa flag default 2")
        unfit((), "default", "option aa count default 10")
        unfit((), "default", "option aa flag default -999999999999")
        unfit((), "default", "option aa many text 1 default a b c d e f g")
        unfit((), "default", "option aa one own size default big", own={"size": lambda: ["small"]})
        unfit((), "own", "option aa one own size")
        unfit((), "twice", "option aa flag", "place aa one name")
        unfit((), "twice", "option aa flag -a", "option bb flag -a")
        unfit((), "group", "group most aa bb")
        unfit((), "form", "place aa maybe name", "place bb one name")
        unfit((), "form", "place aa rest name", "place bb rest name")
        unfit((), "form", "place aa one name", "command b")
        unfit(("b",), "form", "command b", *["option " + letter * 2 + " flag" for letter in "abcdefg"])
        unfit((), "form", *["command " + letter for letter in "bcdefgh"])
        unfit((), "form", *["place " + letter + " one name" for letter in "abcde"])
        unfit((), "form", "option aa flag", "option bb flag", *["group most aa bb"] * 5)
        unfit(("b", "c", "d"), "deep", "command b", "command b c", "command b c d")
        unfit((), "many", *["command " + path for path in ("b", "c", "d", "e", "b f", "b g", "b h", "c f", "c g", "c h", "d f", "d g")])

    def test_122_refused(self):
        for thing in [thing for thing in ANY_THINGS if not isinstance(thing, str)] + ["\u00e9", "name a\ncommand\t", "\x7f"]:
            self.assert_refuses_found(NoText, thing, read_grammar, thing, own=5)
        for thing in [True, 5, "a", [], (), {"A": len}, {5: len}]:
            self.assert_refused(NoRow, {"at": 2}, read_grammar, "name a\ncommand\nx", own=thing)
            self.assert_refuses_found(NoOwn, thing, read_grammar, "name a\ncommand\noption aa flag default 5", own=thing)


if __name__ == "__main__":
    unittest.main()
