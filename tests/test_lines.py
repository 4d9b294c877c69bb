"""Points 2, 7, 8 and 21 to 25: lines, cut and quoted."""

import itertools
import re
import unittest

from callwords.errors import BadSign, NoLine, NoList, NoState, NoWord, TooMany
from callwords.lines import are_alike, cut, joined, quoted, quoted_behind, shows_cut, state_of
from things import ANY_THINGS, Refusals, anew

SIGNS = "".join([chr(code) for code in range(32, 127)])
NO_SIGNS = ["\t", "\r", "\x00", "\x1f", "\x7f", "\x80", "\u00e4", "\u2028"]
TRICKY = "a '\"\\"
ASKING = [
    cut,
    state_of,
    lambda line: shows_cut(line, []),
    lambda line: are_alike(line, "a"),
    lambda line: are_alike("a", line),
]
# What goes wrong in a line, and the number of the sign at which it does.
WRONG_IN_ALL = [
    ("\\", 0), ("a \\", 2), ("\\\\\\", 2), ("a" * 40 + "\\", 40), ("\"ab\\", 3), ("\"\\", 1), ("'a' \"b\\", 6),
    ("\\\n", 1), ("a\\\nb", 2), ("\n\n\\\n", 3), ("'\n'", 1), ("a 'b\nc'", 4), ("\"\n\"", 1), ("\"ab\nc", 3),
    ("\"\\\n\"", 2), ("'a\\\n'", 3), ("'\n\n", 1), ("'\"\n", 2), ("\"'\n", 2),
    ("a" * 41, 40), ("a" * 45, 40), ("b " + "a" * 41 + " c", 42), ("'" + "a" * 41 + "'", 41), ("\"" + " " * 41, 41),
    ("a" * 40 + "\\b", 41), ("a" * 40 + "'b'", 41), ("'" + "a" * 40 + "'\"\\\\\"", 44), ("\\a" * 40 + "\\a", 81),
    ("\"" + "\\\"" * 41 + "\"", 82), ("a" * 41 + " '", 40), ("a" * 41 + "\\", 40), ("'\n" + "a" * 41, 1),
    ("\n\n" + "a" * 41, 42), ("''" * 20 + "a" * 41, 80), (" ".join(["a"] * 41) + "\\", 81),
    (" ".join(["a"] * 50) + " \\\n", 101), (" ".join(["a"] * 50) + " " + "b" * 41, 140),
]
WRONG_IN_CUT = [
    ("'", 0), ("\"", 0), ("a '", 2), ("a'b", 1), ("'a' 'b", 4), ("'a''b", 3), ("a\"b c", 1), ("\\''", 2), ("'\"", 0),
    ("\"'", 0), ("'a'\"b\\\"", 3), ("\n'a", 1), ("'a\\", 0), ("a" * 40 + "'", 40), ("a" * 40 + "\"", 40),
    (" ".join(["a"] * 41) + " '", 82),
]
CUT = [
    ("", []), (" ", []), ("\n", []), (" \n  \n ", []), ("a", ["a"]), ("  a  ", ["a"]), ("a b", ["a", "b"]),
    ("a\nb", ["a", "b"]), ("a \n\n b\n", ["a", "b"]), ("put --size=5 -- x", ["put", "--size=5", "--", "x"]),
    ("''", [""]), ("\"\"", [""]), ("'' \"\"", ["", ""]), ("''\"\"", [""]), ("a ''", ["a", ""]), ("'' a", ["", "a"]),
    ("''''", [""]), ("a''b", ["ab"]), ("a'b c'd", ["ab cd"]), ("a\"b c\"d", ["ab cd"]), ("'a'\"b\"c\\ ", ["abc "]),
    ("'a' 'b'", ["a", "b"]), ("'a\\b'", ["a\\b"]), ("'\\'", ["\\"]), ("'a\"b'", ["a\"b"]), ("\"a'b\"", ["a'b"]),
    ("\"a\\\"b\"", ["a\"b"]), ("\"\\\\\"", ["\\"]), ("\"\\a\"", ["a"]), ("\"\\'\"", ["'"]), ("\"\\ \"", [" "]),
    ("\\a", ["a"]), ("\\ ", [" "]), ("a\\ b", ["a b"]), ("\\\\", ["\\"]), ("\\'a\\'", ["'a'"]), ("\\\"", ["\""]),
    ("'\\'\\'", ["\\'"]), ("#a", ["#a"]), ("$a = `b`", ["$a", "=", "`b`"]),
    ("\\a\nb", ["a", "b"]), ("'a'\n'b'", ["a", "b"]), ("''\n''", ["", ""]), ("a" * 40, ["a" * 40]),
    ("'" + " " * 40 + "'", [" " * 40]), ("\\ " * 40, [" " * 40]), ("a" * 40 + "''", ["a" * 40]),
    ("a" * 40 + "\"\"\n", ["a" * 40]), ("\"" + "\\\"" * 40 + "\"", ["\"" * 40]), (" ".join(["a"] * 40), ["a"] * 40),
]
STATES = [
    ("", ([], None, "")), (" ", ([], None, "")), ("\n", ([], None, "")), ("a", ([], "a", "")),
    ("a ", (["a"], None, "")), ("a\n", (["a"], None, "")), ("a b", (["a"], "b", "")), ("a b \n", (["a", "b"], None, "")),
    ("'", ([], "", "'")), ("\"", ([], "", "\"")), ("a '", (["a"], "", "'")), ("a \"", (["a"], "", "\"")),
    ("a'", ([], "a", "'")), ("a\"", ([], "a", "\"")), ("'b c", ([], "b c", "'")), ("\"b c", ([], "b c", "\"")),
    ("''", ([], "", "")), ("a ''", (["a"], "", "")), ("'' ", ([""], None, "")), ("\"\"\n", ([""], None, "")),
    ("a' ", ([], "a ", "'")), ("a\" ", ([], "a ", "\"")), ("a\\ ", ([], "a ", "")), ("\\ ", ([], " ", "")),
    ("'a'", ([], "a", "")), ("'a'b", ([], "ab", "")), ("'a'\"", ([], "a", "\"")), ("'a\"", ([], "a\"", "'")),
    ("\"a'", ([], "a'", "\"")), ("\"a\\\"", ([], "a\"", "\"")), ("'a\\", ([], "a\\", "'")), ("'' '", ([""], "", "'")),
    ("a" * 40, ([], "a" * 40, "")), ("a" * 40 + "'", ([], "a" * 40, "'")), (" ".join(["a"] * 40), (["a"] * 39, "a", "")),
    ("a " * 40, (["a"] * 40, None, "")), ("a " * 39 + "'", (["a"] * 39, "", "'")),
]

PART = re.compile(r"""'(?P<single>[ -&(-~]*)'|"(?P<double>(?:[ !#-\[\]-~]|\\[ -~])*)"|\\(?P<behind>[ -~])|(?P<plain>[^ \n'"\\])""")


def cut_by_parts(line):
    """The words of a line by whole parts at a time, None where it is refused."""
    words, begun, at = [], None, 0
    while at < len(line):
        part = PART.match(line, at)
        if part is None and line[at] not in " \n":
            return None
        if part is None:
            words, begun, at = words + ([] if begun is None else [begun]), None, at + 1
            continue
        text = part.group(part.lastgroup)
        begun = (begun or "") + (re.sub(r"\\(.)", r"\1", text) if part.lastgroup == "double" else text)
        at = part.end()
    return words + ([] if begun is None else [begun])


def tricky_texts(signs, most):
    """All texts of these signs up to so many."""
    for many in range(most + 1):
        for parts in itertools.product(signs, repeat=many):
            yield "".join(parts)


def told_or_refused(ask, *args):
    """The answer, or the error's class and fields."""
    try:
        return ask(*args)
    except ValueError as error:
        return type(error).__name__, vars(error)


class CutTests(Refusals):
    """Point 21."""

    def test_21_lines_are_cut(self):
        for line, words in CUT:
            self.assert_same(cut(line), words)

    def test_21_all_short_lines_of_tricky_signs(self):
        for line in tricky_texts(TRICKY + "\n", 6):
            words = cut_by_parts(line)
            if words is None:
                with self.assertRaises(BadSign, msg=line):
                    cut(line)
            else:
                self.assertEqual(cut(line), words, line)

    def test_21_each_sign_as_it_is_within_quotes_and_behind_a_backslash(self):
        for sign in SIGNS:
            self.assertEqual(cut("\\" + sign), [sign])
            self.assertEqual(cut("\"\\" + sign + "\""), [sign])
            if sign != "'":
                self.assertEqual(cut("'" + sign + "'"), [sign])
            if sign not in "\"\\":
                self.assertEqual(cut("\"" + sign + "\""), [sign])
            if sign not in TRICKY[1:]:
                self.assertEqual(cut(sign), [sign])

    def test_21_what_is_no_line(self):
        things = [thing for thing in ANY_THINGS if not isinstance(thing, str)]
        texts = [text + sign + text for sign in NO_SIGNS for text in ("", "a", "'")]
        for ask in ASKING:
            for thing in things + texts + [" " * 2001, "a" * 2001, "'" * 2001, "a b\n" * 2500]:
                self.assert_refuses_found(NoLine, thing, ask, thing)

    def test_21_lines_of_two_thousand_signs(self):
        line = " " * 1999 + "a"
        self.assertEqual(cut(line), ["a"])
        self.assertEqual(cut("\n" * 1999 + "a"), ["a"])
        self.assertEqual(state_of(line), ([], "a", ""))
        self.assertIs(shows_cut(line, ["a"]), True)
        self.assertIs(are_alike(line, "a"), True)
        longer = " " + line
        self.assert_refuses_found(NoLine, longer, cut, longer)

    def test_21_where_a_line_goes_wrong(self):
        for line, at in WRONG_IN_ALL + WRONG_IN_CUT:
            self.assert_refused(BadSign, {"at": at}, cut, line)
            self.assert_refused(BadSign, {"at": at}, shows_cut, line, [])
            self.assert_refused(BadSign, {"at": at}, are_alike, line, "a")
            self.assert_refused(BadSign, {"at": at}, are_alike, "a", line)

    def test_21_within_single_quotes_a_backslash_is_a_sign(self):
        self.assert_refused(BadSign, {"at": 0}, cut, "'a\\")
        self.assertEqual(cut("'a\\'"), ["a\\"])

    def test_21_more_than_forty_words(self):
        for many in range(38, 60):
            for line in (" ".join(["a"] * many), "'' " * many, "\n".join(["\"b\""] * many)):
                if many <= 40:
                    self.assertEqual(len(cut(line)), many)
                else:
                    self.assert_refused(TooMany, {"many": many}, cut, line)
                    self.assert_refused(TooMany, {"many": many}, shows_cut, line, [])
                    self.assert_refused(TooMany, {"many": many}, are_alike, line, "a")
        self.assert_refused(TooMany, {"many": 1000}, cut, "a " * 1000)

    def test_7_a_told_list_is_a_new_one(self):
        cut("a b").append("c")
        self.assertEqual(cut("a b"), ["a", "b"])

    def test_6_by_names(self):
        self.assertEqual(cut(line="a b"), ["a", "b"])


class StateTests(Refusals):
    """Point 22."""

    def test_22_states(self):
        for line, state in STATES:
            told = state_of(line)
            self.assert_same(told, state)
            self.assertIs(type(told[0]), list)

    def test_22_all_short_lines_of_tricky_signs(self):
        for line in tricky_texts(TRICKY + "\n", 5):
            closed = cut_by_parts(line)
            ways = [(quote, cut_by_parts(line + quote)) for quote in ("'", "\"")]
            told = told_or_refused(state_of, line)
            if closed is not None:
                whole = line == "" or cut_by_parts(line + "a") == closed + ["a"]
                wanted = (closed, None, "") if whole else (closed[:-1], closed[-1], "")
                self.assertEqual(told, wanted, line)
            elif told[0] != "BadSign":
                self.assertEqual([(told[2], told[0] + [told[1]])], [way for way in ways if way[0] == told[2]], line)
                self.assertNotEqual(told[2], "")
            else:
                self.assertTrue(line.endswith("\\") or "\n" in line, line)

    def test_22_where_a_line_goes_wrong(self):
        for line, at in WRONG_IN_ALL:
            self.assert_refused(BadSign, {"at": at}, state_of, line)

    def test_22_a_quote_may_be_open(self):
        for line, _ in WRONG_IN_CUT[:-1]:
            self.assertIn(state_of(line)[2], ("'", "\""))

    def test_22_the_word_begun_counts_too(self):
        for begun in ("a", "''", "'", "\"", "'a", "\"a b", "\\a"):
            self.assertEqual(len(state_of("a " * 39 + begun)[0]), 39)
            self.assert_refused(TooMany, {"many": 41}, state_of, "a " * 40 + begun)
            self.assert_refused(TooMany, {"many": 51}, state_of, "a " * 50 + begun)
        self.assert_refused(TooMany, {"many": 41}, state_of, "a " * 41)

    def test_7_a_told_list_is_a_new_one(self):
        state_of("a b")[0].append("c")
        self.assertEqual(state_of("a b"), (["a"], "b", ""))

    def test_6_by_names(self):
        self.assertEqual(state_of(line="a b"), (["a"], "b", ""))


class QuotedTests(Refusals):
    """Point 23."""

    def ways(self, word):
        """The four ways, None where one isn't."""
        needing = any([sign in TRICKY[1:] for sign in word])
        return [
            None if needing or word == "" else word,
            None if word == "" else re.sub(r"""([ '"\\])""", r"\\\1", word),
            None if "'" in word else f"'{word}'",
            '"' + re.sub(r"""(["\\])""", r"\\\1", word) + '"',
        ]

    def test_23_each_of_the_four_ways(self):
        for word, text in (
            ("a", "a"), ("-x", "-x"), ("#", "#"), ("~" * 40, "~" * 40),
            ("a b", "a\\ b"), ("'", "\\'"), ("\"", "\\\""), ("\\", "\\\\"), ("it's", "it\\'s"), (" ", "\\ "),
            ("", "''"), ("a b c d", "'a b c d'"), ("\"\"\"", "'\"\"\"'"), ("\\\\\\", "'\\\\\\'"), ("   ", "'   '"),
            ("it's so so so", "\"it's so so so\""), ("'''", "\"'''\""), ("'  \"", "\"'  \\\"\""),
        ):
            self.assert_same(quoted(word), text)

    def test_23_of_ways_as_short_the_first(self):
        for word, text in (
            ("", "''"), ("  ", "\\ \\ "), ("a b c", "a\\ b\\ c"), ("''", "\\'\\'"), ("\" ", "\\\"\\ "), ("' ", "\\'\\ "),
            ("' \"", "\\'\\ \\\""), ("'  \"\"", "\"'  \\\"\\\"\""), ("   '", "\"   '\""), ("'\"\"\\", "\\'\\\"\\\"\\\\"),
            ("a b c d", "'a b c d'"), ("'a \"b", "\\'a\\ \\\"b"), ("a'b'\\", "a\\'b\\'\\\\"),
        ):
            self.assert_same(quoted(word), text)

    def test_23_all_short_words_go_the_shortest_way_and_back(self):
        for word in tricky_texts(TRICKY, 6):
            ways = [way for way in self.ways(word) if way is not None]
            fewest = min([len(way) for way in ways])
            told = quoted(word)
            self.assertEqual(told, [way for way in ways if len(way) == fewest][0], word)
            self.assertEqual(cut(told), [word], word)

    def test_23_each_sign(self):
        for sign in SIGNS:
            self.assertEqual(quoted(sign), "\\" + sign if sign in TRICKY[1:] else sign)
            for word in (sign * 40, "a" * 39 + sign, "it's so so so " + sign):
                ways = [way for way in self.ways(word) if way is not None]
                self.assertEqual(quoted(word), min(ways, key=len))
                self.assertEqual(cut(quoted(word)), [word])
            for quote in ("'", "\""):
                self.assertEqual(cut(quote + "b" + quoted_behind(([], "b", quote), "b" + sign)), ["b" + sign])

    def test_23_refused_with_no_word(self):
        for thing in ANY_THINGS + ["a\n", "\n", "a" * 41] + NO_SIGNS:
            if not isinstance(thing, str) or len(thing) > 40 or not all([" " <= sign <= "~" for sign in thing]):
                self.assert_refuses_found(NoWord, thing, quoted, thing)

    def test_23_lists_are_joined(self):
        for words, text in (
            ([], ""), ((), ""), (["a"], "a"), ([""], "''"), (["a", "b c", ""], "a b\\ c ''"), (("a", "'"), "a \\'"),
            (["", ""], "'' ''"), (["a"] * 40, " ".join(["a"] * 40)),
        ):
            self.assert_same(joined(words), text)

    def test_23_what_is_joined_is_cut_to_the_same(self):
        short = list(tricky_texts(TRICKY, 2))
        for words in itertools.product(short, repeat=2):
            self.assertEqual(cut(joined(words)), list(words))
        for start in range(0, len(short)):
            words = (short + short)[start:start + 40]
            self.assertEqual(cut(joined(words)), words)

    def test_23_refused_with_no_list_of_the_whole(self):
        for thing in ANY_THINGS:
            if not (isinstance(thing, (list, tuple)) and len(thing) <= 40 and all([type(x) is str for x in thing])):
                self.assert_refuses_found(NoList, thing, joined, thing)
        for thing in (["a"] * 41, ("a",) * 41, [""] * 60, ["a", "a" * 41], ["a", "b\n"], ["a", 5], ["a", ["b"]], "ab"):
            self.assert_refuses_found(NoList, thing, joined, thing)

    def test_7_what_is_handed_in_stays(self):
        words = ["b", "a c", ""]
        joined(words)
        self.assertEqual(words, ["b", "a c", ""])

    def test_6_by_names(self):
        self.assertEqual(quoted(word=" "), "\\ ")
        self.assertEqual(joined(words=[" "]), "\\ ")


class BehindTests(Refusals):
    """Point 24."""

    NO_STATES = [
        ([], None), ([], None, "", ""), [[], None, ""], ([], None, "'"), ([], None, "\""), ([], None, None),
        ([], "a", None), ([], "a", "`"), ([], "a", "''"), ([], "a", " "), ([], "a", "'\""), ([], "a", 0), ([], "a", []),
        ([], 5, ""), ([], True, ""), ([], ["a"], ""), ([], "a" * 41, ""), ([], "a\n", ""), ([], "\u00e9", "'"),
        ("", "a", ""), ("ab", "a", ""), ({}, "a", ""), (None, "a", ""), (5, None, ""), (["a"] * 41, None, ""),
        (["a" * 41], None, ""), ([5], None, ""), (["a", None], "a", ""), ([["a"]], "a", ""), (["\n"], "a", ""),
    ]

    def test_24_written_behind(self):
        for line, word, text in (
            ("", "ab", "ab "), ("", "", "'' "), ("a ", "b c", "b\\ c "), ("a ", "b c d e", "'b c d e' "), ("\n", "'", "\\' "),
            ("a", "ab", "b "), ("a", "a", " "), ("''", "", " "), ("''", "a b", "a\\ b "), ("a", "a b c d", "\\ b\\ c\\ d "),
            ("a", "a'\"\\ ", "\\'\\\"\\\\\\  "), ("'", "", "' "), ("\"", "", "\" "), ("'", "a b", "a b' "),
            ("\"", "a b", "a b\" "), ("'a", "a'b'", "'\\''b'\\''' "), ("'a", "a\"\\", "\"\\' "), ("'it", "it's", "'\\''s' "),
            ("\"a", "a\"b\\c'", "\\\"b\\\\c'\" "), ("\"a", "a", "\" "), ("'a", "a", "' "), ("a'b", "ab c", " c' "),
            ("'a'\"b", "ab c", " c\" "), ("a\\ ", "a b", "b "), ("x 'a", "ab", "b' "), ("a", "a" * 40, "a" * 39 + " "),
        ):
            self.assert_same(quoted_behind(state_of(line), word), text)

    def test_24_the_word_begun_becomes_the_word(self):
        rests = list(tricky_texts(TRICKY, 3))
        for line in ("", "x ", "''", "'", "\"", "a", "'a", "\"a", "x 'a", "x \"a", "a\\ ", "'a'", "a'b ", "\"\\\"", "y\n'\""):
            state = state_of(line)
            for rest in rests:
                word = (state[1] or "") + rest
                written = quoted_behind(state, word)
                self.assertEqual(cut(line + written), state[0] + [word], (line, word))
                self.assertEqual(state_of(line + written), (state[0] + [word], None, ""))
                if state[1] is None:
                    self.assertEqual(written, quoted(word) + " ")

    def test_24_states_made_by_hand(self):
        self.assertEqual(quoted_behind(((), "a", ""), "ab"), "b ")
        self.assertEqual(quoted_behind((("x",) * 40, "a", "'"), "ab"), "b' ")
        self.assertEqual(quoted_behind((["x"] * 40, None, ""), "ab"), "ab ")

    def test_24_refused_with_no_state(self):
        things = [thing for thing in ANY_THINGS if thing != (["a"], "a", "")]
        for state in self.NO_STATES + things:
            self.assert_refuses_found(NoState, state, quoted_behind, state, "a")

    def test_24_refused_with_no_word(self):
        states = [([], None, ""), ([], "", "'"), (["a"], "", "")]
        for state in states:
            for thing in ANY_THINGS + ["a\n", "a" * 41] + NO_SIGNS:
                if not isinstance(thing, str) or len(thing) > 40 or not all([" " <= sign <= "~" for sign in thing]):
                    self.assert_refuses_found(NoWord, thing, quoted_behind, state, thing)
        for state in (([], "ab", ""), ([], "ab", "'"), ([], "ab", "\"")):
            for word in ("", "a", "b", "ba", "Ab", " ab", 5, None, ["ab"], "ab" * 21):
                self.assert_refuses_found(NoWord, word, quoted_behind, state, word)

    def test_8_no_state_goes_ahead_of_no_word(self):
        state = ([], None, "'")
        self.assert_refuses_found(NoState, state, quoted_behind, state, 5)

    def test_7_what_is_handed_in_stays(self):
        state = (["a", "b"], "c", "'")
        before = anew(state)
        quoted_behind(state, "c d")
        self.assertEqual(state, before)

    def test_6_by_names(self):
        self.assertEqual(quoted_behind(word="a", state=([], None, "")), "a ")


class AlikeTests(Refusals):
    """Point 25."""

    def test_25_the_list_of_words_to_which_a_line_is_cut(self):
        for line, words in CUT:
            self.assertIs(shows_cut(line, words), True)
            self.assertIs(shows_cut(line, tuple(words)), True)
            self.assertIs(shows_cut(line, words + ["a"]), False)
            if words != []:
                self.assertIs(shows_cut(line, words[1:]), False)
        self.assertIs(shows_cut("a b", ["b", "a"]), False)
        self.assertIs(shows_cut("1", [1]), False)

    def test_25_any_other_thing_is_none(self):
        for thing in ANY_THINGS:
            self.assertIs(shows_cut("some words", thing), False)
            self.assertIs(shows_cut("", thing), isinstance(thing, (list, tuple)) and len(thing) == 0)

    def test_25_lines_that_are_alike(self):
        for line, words in CUT:
            for other, others in CUT:
                self.assertIs(are_alike(line, other), words == others, (line, other))

    def test_8_the_first_line_goes_ahead_of_the_other(self):
        self.assert_refuses_found(NoLine, 5, are_alike, 5, "'")
        self.assert_refused(BadSign, {"at": 0}, are_alike, "'", 5)
        self.assert_refused(TooMany, {"many": 41}, are_alike, "a " * 41, 5)
        self.assert_refused(BadSign, {"at": 1}, are_alike, "a", "b'")

    def test_7_what_is_handed_in_stays(self):
        words = ["a", "b"]
        self.assertIs(shows_cut("a b", words), True)
        self.assertEqual(words, ["a", "b"])

    def test_6_by_names(self):
        self.assertIs(shows_cut(thing=["a"], line="a"), True)
        self.assertIs(are_alike(other="'a'", line="a"), True)


if __name__ == "__main__":
    unittest.main()
