"""Points 2, 3, 4 and 11 to 15: what is a word, a kind, a worth, and how worths and words lead to and fro."""

import itertools
import unittest

from callwords import kinds
from callwords.errors import NoKind, NoList, NoNumber, NoWorth
from things import ANY_THINGS, BAD_KINDS, BAD_OWN, GOOD_KINDS, GOOD_OWN, Refusals, anew

SIGNS = "".join([chr(code) for code in range(32, 127)])
LETTERS = "abcdefghijklmnopqrstuvwxyz"
NO_SIGNS = ["\n", "\t", "\r", "\x00", "\x1f", "\x7f", "\x80", "\u00e4", "\u0661", "\U0001f600"]
NO_PLAIN_NUMBERS = [
    "", "-", "--1", "-0", "-00", "00", "01", "-01", "007", "+1", " 1", "1 ", "1\n", "1.0", "1e3", "1_000", "a", "0x1",
    "x", "1x", "1-", "\u0661", "\u00b2", "-\u0661",
]
ALL_NUMBERS = ("number", -999999, 999999)

# Every question that takes a kind and own words.
ASKING = [
    lambda kind, own: kinds.is_worth(kind, "a", own=own),
    lambda kind, own: kinds.word_of(kind, "a", own=own),
    lambda kind, own: kinds.worth_of(kind, "a", own=own),
    lambda kind, own: kinds.begins_worth(kind, "a", own=own),
    lambda kind, own: kinds.known_words(kind, own=own),
    lambda kind, own: kinds.has_worth(kind, own=own),
]


def no_texts():
    """Any things that are no texts."""
    return [thing for thing in ANY_THINGS if not isinstance(thing, str)]


class WholeTests(Refusals):
    """Point 11: whole numbers, names, letters, words."""

    def test_11_whole_numbers_at_low_and_high_and_one_beyond(self):
        for low, high in ((0, 9), (-5, -3), (4, 4), (-999999, 999999), (-(10 ** 29), 10 ** 29)):
            for number, wanted in ((low - 1, False), (low, True), (high, True), (high + 1, False)):
                self.assertIs(kinds.is_whole(number, low, high), wanted)

    def test_11_nothing_is_from_a_greater_low_to_high(self):
        for number in range(-3, 12):
            self.assertIs(kinds.is_whole(number, 8, 0), False)
        self.assertIs(kinds.is_whole([], 8, 0), False)

    def test_2_true_and_false_are_no_whole_numbers(self):
        self.assertIs(kinds.is_whole(True, 0, 1), False)
        self.assertIs(kinds.is_whole(False, 0, 1), False)

    def test_11_any_thing_else_is_no_whole_number(self):
        for thing in ANY_THINGS:
            wanted = type(thing) is int
            self.assertIs(kinds.is_whole(thing, -(10 ** 30), 10 ** 30), wanted, thing)

    def test_6_by_names(self):
        self.assertIs(kinds.is_whole(thing=3, low=3, high=4), True)
        self.assertIs(kinds.is_name(thing="a"), True)
        self.assertIs(kinds.is_letter(thing="a"), True)
        self.assertIs(kinds.is_word(thing=""), True)
        self.assertIs(kinds.is_kind(thing=("name",)), True)


class NameTests(Refusals):
    """Point 11, with 2."""

    def test_11_names_of_one_to_eight_letters(self):
        for many in range(12):
            self.assertIs(kinds.is_name("z" * many), 1 <= many <= 8)
        self.assertIs(kinds.is_name("azbycxno"), True)

    def test_11_letters(self):
        for letter in LETTERS:
            self.assertIs(kinds.is_letter(letter), True)
            self.assertIs(kinds.is_name(letter), True)
        for text in ("", "ab", "no", "abc"):
            self.assertIs(kinds.is_letter(text), False)

    def test_11_other_signs_are_no_letters(self):
        for sign in [sign for sign in SIGNS if sign not in LETTERS] + NO_SIGNS:
            self.assertIs(kinds.is_letter(sign), False)
            for text in (sign, "a" + sign, sign + "a", "a" + sign + "b"):
                self.assertIs(kinds.is_name(text), False, text)

    def test_11_words_of_none_to_forty_signs(self):
        for many in (0, 1, 39, 40, 41, 400, 10000):
            self.assertIs(kinds.is_word("~" * many), many <= 40)
        for sign in SIGNS:
            self.assertIs(kinds.is_word(sign), True)
            self.assertIs(kinds.is_word(sign * 40), True)

    def test_11_texts_with_signs_that_are_none_are_no_words(self):
        for sign in NO_SIGNS:
            for text in (sign, "a" + sign, sign + "a", "a" * 39 + sign):
                self.assertIs(kinds.is_word(text), False, text)

    def test_11_any_thing_that_is_no_text_is_none_of_them(self):
        for thing in no_texts():
            for asked in (kinds.is_name, kinds.is_letter, kinds.is_word):
                self.assertIs(asked(thing), False, thing)


class KindTests(Refusals):
    """Points 3 and 11."""

    def test_11_kinds(self):
        for kind in GOOD_KINDS:
            self.assertIs(kinds.is_kind(kind), True, kind)

    def test_11_no_kinds(self):
        for thing in BAD_KINDS + ANY_THINGS:
            self.assertIs(kinds.is_kind(thing), False, thing)

    def test_3_numbers_at_their_bounds(self):
        for low, high, wanted in (
            (-999999, 999999, True), (-999999, -999999, True), (999999, 999999, True), (0, 0, True),
            (-1000000, 999999, False), (-999999, 1000000, False), (1, 0, False), (5, -5, False),
        ):
            self.assertIs(kinds.is_kind(("number", low, high)), wanted)

    def test_3_one_has_one_to_eight_unlike_names(self):
        for many in range(12):
            self.assertIs(kinds.is_kind(("one", tuple(LETTERS[:many]))), 1 <= many <= 8)
        self.assertIs(kinds.is_kind(("one", ("a", "b", "c", "a"))), False)
        self.assertIs(kinds.is_kind(("one", ("a" * 8, "a" * 7))), True)
        self.assertIs(kinds.is_kind(("one", ("a" * 9,))), False)

    def test_3_a_texts_most(self):
        for most in range(-2, 25):
            self.assertIs(kinds.is_kind(("text", most)), 1 <= most <= 20)

    def test_3_an_own_kind_has_a_name(self):
        for many in range(12):
            self.assertIs(kinds.is_kind(("own", "o" * many)), 1 <= many <= 8)


class NumberWordTests(Refusals):
    """Point 12, with 3."""

    def test_12_plain_words(self):
        for number, word in (
            (0, "0"), (5, "5"), (-5, "-5"), (10, "10"), (-10, "-10"), (999999, "999999"), (-999999, "-999999"),
            (10 ** 18, "1" + "0" * 18), (10 ** 18 - 1, "9" * 18), (-(10 ** 18) - 7, "-1" + "0" * 17 + "7"),
            (10 ** 29, "1" + "0" * 29), (10 ** 30 - 1, "9" * 30), (-(10 ** 30) + 1, "-" + "9" * 30),
        ):
            self.assert_same(kinds.number_word(number), word)
            self.assert_same(kinds.number_in(word), number)
        for number in range(-1200, 1200):
            self.assertEqual(kinds.number_word(number), str(number))

    def test_12_refused_with_no_number(self):
        for thing in ANY_THINGS:
            if type(thing) is not int:
                self.assert_refuses_found(NoNumber, thing, kinds.number_word, thing)

    def test_12_numbers_in_words(self):
        for number in range(-1200, 1200):
            self.assert_same(kinds.number_in(str(number)), number)

    def test_12_none_where_it_is_not_plainly_written(self):
        for text in NO_PLAIN_NUMBERS:
            self.assertIsNone(kinds.number_in(text), text)
        for thing in no_texts():
            self.assertIsNone(kinds.number_in(thing), thing)

    def test_6_what_was_told_may_be_handed_in_whatever_its_size(self):
        for text in ("7" * 400, "-" + "8" * 399, "9" * 10000):
            self.assertEqual(kinds.number_word(kinds.number_in(text)), text)

    def test_6_by_names(self):
        self.assertEqual(kinds.number_word(number=4), "4")
        self.assertEqual(kinds.number_in(thing="4"), 4)


class WorthTests(Refusals):
    """Point 13: worths, and their words."""

    KIND_WORTHS = [
        (("number", -3, 12), (), [-3, -1, 0, 9, 10, 12], ["-3", "-1", "0", "9", "10", "12"]),
        (ALL_NUMBERS, (), [-999999, 999999], ["-999999", "999999"]),
        (("one", ("on", "off", "a")), (), ["a", "on", "off"], ["a", "on", "off"]),
        (("name",), (), ["a", "abcdefgh"], ["a", "abcdefgh"]),
        (("text", 20), (), ["", " ", "07", "a" * 20, "'\"\\"], ["", " ", "07", "a" * 20, "'\"\\"]),
        (("own", "size"), ["b c", "7", "a" * 20], ["7", "b c", "a" * 20], ["7", "b c", "a" * 20]),
        (("own", "size"), ("b", "a"), ["a", "b"], ["a", "b"]),
    ]
    KIND_OTHERS = [
        (("number", -3, 12), (), [-4, 13, True, False, "5", None, (5,)], ["-4", "13", "05", "-0", "-", "", "5 ", "a"]),
        (ALL_NUMBERS, (), [-1000000, 1000000, 10 ** 29], ["1000000", "-1000000", "9" * 30, "9" * 400]),
        (("one", ("on", "off")), (), ["o", "offs", "", 5, True, ["on"], ("on", "off")], ["o", "offs", "", "size", "On"]),
        (("name",), (), ["", "abcdefghi", "A", "a1", 5, None, ["a"]], ["", "abcdefghi", "A", "a1", "a ", "\u00e9"]),
        (("text", 3), (), ["abcd", 5, None, ["a"], "\u00e9"], ["abcd", "a\n", "\u00e9", "a" * 41]),
        (("own", "size"), ["b", "c d"], ["", "a", "c", 5, None, ["b"], ["b", "c d"]], ["", "a", "size", "c"]),
        (("own", "size"), (), ["", "size"], ["", "size"]),
    ]

    def test_13_worths_and_their_words_lead_to_and_fro(self):
        for kind, own, worths, words in self.KIND_WORTHS:
            for worth, word in zip(worths, words):
                self.assertIs(kinds.is_worth(kind, worth, own=own), True)
                self.assert_same(kinds.word_of(kind, worth, own=own), word)
                self.assert_same(kinds.worth_of(kind, word, own=own), worth)
                self.assertIs(kinds.begins_worth(kind, word, own=own), True)

    def test_13_other_things_are_no_worths(self):
        for kind, own, others, words in self.KIND_OTHERS:
            for thing in others:
                self.assertIs(kinds.is_worth(kind, thing, own=own), False, (kind, thing))
                self.assert_refuses_found(NoWorth, thing, kinds.word_of, kind, thing, own=own)
            for word in words:
                self.assertIsNone(kinds.worth_of(kind, word, own=own), (kind, word))

    def test_13_a_text_at_its_most(self):
        for most in (1, 7, 20):
            for many in range(43):
                word = "x" * many
                self.assertIs(kinds.is_worth(("text", most), word), many <= most)
                self.assertEqual(kinds.worth_of(("text", most), word), word if many <= most else None)

    def test_13_what_is_no_text_writes_no_worth(self):
        for kind in GOOD_KINDS:
            for thing in no_texts():
                self.assertIsNone(kinds.worth_of(kind, thing), (kind, thing))
                self.assertIs(kinds.begins_worth(kind, thing), False)
                if type(thing) is not int:
                    self.assertIs(kinds.is_worth(kind, thing), False)
                    self.assert_refuses_found(NoWorth, thing, kinds.word_of, kind, thing)

    def test_13_own_words_count_for_own_kinds_alone(self):
        for kind in (("one", ("a", "b")), ("name",), ("text", 1), ("number", 0, 1)):
            self.assertIs(kinds.is_worth(kind, "c d", own=["c d"]), False)
            self.assertIsNone(kinds.worth_of(kind, "c d", own=["c d"]))
            self.assertIs(kinds.begins_worth(kind, "c ", own=["c d"]), False)

    def test_13_own_words_are_none_where_left_out(self):
        self.assertIs(kinds.is_worth(("own", "a"), "a"), False)
        self.assertIsNone(kinds.worth_of(("own", "a"), "a"))
        self.assertIs(kinds.begins_worth(("own", "a"), ""), False)
        self.assert_refuses_found(NoWorth, "a", kinds.word_of, ("own", "a"), "a")

    def test_13_an_own_kind_by_the_name_of_another_one(self):
        for name in ("number", "one", "name", "text", "own"):
            for word in ("a", "5", ""):
                wanted = word == "5"
                self.assertIs(kinds.is_worth(("own", name), word, own=["5"]), wanted)
                self.assertEqual(kinds.worth_of(("own", name), word, own=["5"]), "5" if wanted else None)
                self.assertIs(kinds.begins_worth(("own", name), word, own=["5"]), word != "a")
            self.assertEqual(kinds.word_of(("own", name), "5", own=["5"]), "5")
            self.assertEqual(kinds.known_words(("own", name), own=["5"]), ["5"])
            self.assertIs(kinds.has_worth(("own", name)), False)
            self.assertIs(kinds.default_fits("one", ("own", name), "no name"), True)

    def test_13_each_list_of_own_words(self):
        for own in GOOD_OWN:
            for word in own:
                self.assertIs(kinds.is_worth(("own", "a"), word, own=own), True)
            self.assertIs(kinds.is_worth(("own", "a"), "no such", own=own), False)

    def test_6_by_names(self):
        self.assertIs(kinds.is_worth(own=["b"], thing="b", kind=("own", "a")), True)
        self.assertEqual(kinds.word_of(worth=5, kind=("number", 0, 9), own=()), "5")
        self.assertEqual(kinds.worth_of(word="5", kind=("number", 0, 9)), 5)
        self.assertIs(kinds.begins_worth(thing="5", kind=("number", 0, 9)), True)


class BeginsTests(Refusals):
    """Point 13: texts with which the word of some worth begins."""

    def beginnings(self, words):
        return {word[:many] for word in words for many in range(len(word) + 1)}

    def assert_begins(self, kind, own, words, others):
        """Just the beginnings of these words begin a worth."""
        begun = self.beginnings(words)
        for text in begun | set(others):
            self.assertIs(kinds.begins_worth(kind, text, own=own), text in begun, (kind, text))

    def test_13_numbers(self):
        others = NO_PLAIN_NUMBERS + [str(number) for number in range(-2100, 2100)] + ["9" * 30, "1" + "0" * 400]
        bounds = (-1021, -999, -100, -99, -20, -12, -10, -9, -1, 0, 1, 2, 9, 10, 11, 19, 99, 100, 120, 1000, 1021)
        for low, high in itertools.combinations_with_replacement(bounds, 2):
            words = [str(number) for number in range(low, high + 1)]
            self.assert_begins(("number", low, high), (), words, others)

    def test_13_numbers_at_their_bounds(self):
        for kind, begun, not_begun in (
            (ALL_NUMBERS, ["", "-", "0", "1", "-9", "999999", "-999999"], ["-0", "1000000", "-1000000", "00", "01"]),
            (("number", 999999, 999999), ["", "9", "99999", "999999"], ["-", "0", "8", "99998", "9999999"]),
            (("number", -999999, -999999), ["", "-", "-9", "-999999"], ["9", "0", "-0", "-8", "-9999999"]),
            (("number", 100000, 200000), ["1", "2", "20", "200000", "19"], ["0", "3", "21", "200001", "1000000"]),
            (("number", 3, 12), ["", "1", "10", "12", "3"], ["2", "0", "13", "-", "100"]),
        ):
            for text in begun:
                self.assertIs(kinds.begins_worth(kind, text), True, (kind, text))
            for text in not_begun:
                self.assertIs(kinds.begins_worth(kind, text), False, (kind, text))

    def test_13_names_of_one_and_own_words(self):
        others = ["n", "of", "offs", "ono", " ", "b", "O", "\u00e9"]
        self.assert_begins(("one", ("on", "off", "a")), (), ["on", "off", "a"], others)
        self.assert_begins(("one", ("on", "off")), ["zero"], ["on", "off"], others + ["z"])
        self.assert_begins(("own", "size"), ["on the", "'a"], ["on the", "'a"], others + ["s", "size", "a"])
        self.assertIs(kinds.begins_worth(("own", "size"), "", own=[]), False)

    def test_13_names(self):
        for text in ("", "a", "abcdefgh"):
            self.assertIs(kinds.begins_worth(("name",), text), True)
        for text in ("abcdefghi", "A", "a1", " ", "a ", "\u00e9"):
            self.assertIs(kinds.begins_worth(("name",), text), False)

    def test_13_texts(self):
        for most in (1, 20):
            for many in range(43):
                self.assertIs(kinds.begins_worth(("text", most), " " * many), many <= most)
        for sign in NO_SIGNS:
            self.assertIs(kinds.begins_worth(("text", 20), sign), False)


class KnownTests(Refusals):
    """Point 14."""

    def test_14_known_words_in_their_order(self):
        self.assert_same(kinds.known_words(("one", ("z", "a", "n"))), ["z", "a", "n"])
        self.assert_same(kinds.known_words(("one", ("z", "a")), own=["b"]), ["z", "a"])
        self.assert_same(kinds.known_words(("own", "z"), own=("c d", "a")), ["c d", "a"])
        self.assert_same(kinds.known_words(("own", "z"), own=["c", "a"]), ["c", "a"])
        self.assert_same(kinds.known_words(("own", "z")), [])

    def test_14_no_other_kind_has_known_words(self):
        for kind in (("number", 0, 1), ("name",), ("text", 1)):
            self.assert_same(kinds.known_words(kind, own=["a"]), [])

    def test_14_whether_there_is_any_worth(self):
        for kind in GOOD_KINDS:
            self.assertIs(kinds.has_worth(kind), kind[0] != "own")
            self.assertIs(kinds.has_worth(kind, own=["a"]), True)
            self.assertIs(kinds.has_worth(kind, own=()), kind[0] != "own")

    def test_7_a_told_list_is_a_new_one(self):
        own = ["c", "a"]
        for kind in (("one", ("c", "a")), ("own", "z"), ("name",)):
            told = kinds.known_words(kind, own=own)
            before = anew(told)
            told.append("more")
            self.assertEqual(kinds.known_words(kind, own=own), before)
        self.assertEqual(own, ["c", "a"])

    def test_6_by_names(self):
        self.assertEqual(kinds.known_words(kind=("one", ("a",)), own=()), ["a"])
        self.assertIs(kinds.has_worth(own=["b"], kind=("own", "a")), True)


class RefusedTests(Refusals):
    """Points 8 and 13: what is refused of kinds and own words, and in which order."""

    def test_13_refused_with_no_kind(self):
        for ask in ASKING:
            for kind in BAD_KINDS + ANY_THINGS:
                self.assert_refuses_found(NoKind, kind, ask, kind, ())

    def test_13_refused_with_no_list_whatever_the_kind(self):
        for ask in ASKING:
            for kind in (("own", "a"), ("name",), ("text", 1), ("number", 0, 9), ("one", ("a",))):
                for own in BAD_OWN:
                    self.assert_refuses_found(NoList, own, ask, kind, own)

    def test_8_no_kind_goes_ahead_of_no_list(self):
        for ask in ASKING:
            self.assert_refuses_found(NoKind, "name", ask, "name", ["a", "a"])

    def test_8_no_list_goes_ahead_of_no_worth(self):
        own = ["a", "a"]
        self.assert_refuses_found(NoList, own, kinds.word_of, ("own", "a"), 5, own=own)
        self.assert_refuses_found(NoKind, None, kinds.word_of, None, 5, own=own)

    def test_13_no_list_of_own_words_at_its_bounds(self):
        for many in range(12):
            own = list(LETTERS[:many])
            if many <= 8:
                self.assertEqual(kinds.known_words(("own", "a"), own=own), own)
            else:
                self.assert_refuses_found(NoList, own, kinds.known_words, ("own", "a"), own=own)
        for many in range(43):
            own = ["x" * many]
            if 1 <= many <= 20:
                self.assertEqual(kinds.known_words(("own", "a"), own=own), own)
            else:
                self.assert_refuses_found(NoList, own, kinds.known_words, ("own", "a"), own=own)

    def test_7_what_is_handed_in_stays(self):
        for own in GOOD_OWN:
            before = anew(own)
            for kind in GOOD_KINDS:
                kinds.is_worth(kind, "a", own=own)
                kinds.worth_of(kind, "a", own=own)
                kinds.begins_worth(kind, "a", own=own)
                kinds.known_words(kind, own=own)
                kinds.has_worth(kind, own=own)
            self.assertEqual(own, before)


class DefaultTests(Refusals):
    """Points 4 and 15."""

    FITTING = [
        ("flag", None, [0, 1]),
        ("count", None, list(range(10))),
        ("one", ("number", -3, 12), [None, -3, 12]),
        ("one", ("one", ("a", "b")), [None, "b"]),
        ("one", ("name",), [None, "abcdefgh"]),
        ("one", ("text", 2), [None, "", "ab"]),
        ("one", ("own", "a"), [None, "", "no own word", "a" * 40]),
        ("many", ("number", -3, 12), [(), (5,), (-3, 12, 5, 5, 5, 5)]),
        ("many", ("one", ("a", "b")), [(), ("a",), ("b", "b")]),
        ("many", ("name",), [(), ("a",) * 6]),
        ("many", ("text", 2), [(), ("", "ab")]),
        ("many", ("own", "a"), [(), ("", "no own word", "a" * 40)]),
    ]
    OTHERS = [
        ("flag", None, [True, False, 2, -1, None, "0", (), "yes"]),
        ("flag", ("number", 0, 1), [0, 1]),
        ("flag", False, [0, 1]),
        ("count", None, [True, False, 10, -1, None, "0", ()]),
        ("count", ("number", 0, 9), [0, 1, 9]),
        ("count", (), [0]),
        ("one", ("number", -3, 12), [-4, 13, True, "5", (), (5,)]),
        ("one", ("one", ("a", "b")), ["c", "", ("a",), 5]),
        ("one", ("name",), ["", "abcdefghi", 5]),
        ("one", ("text", 2), ["abc", 5, ("a",)]),
        ("one", ("own", "a"), [5, True, ("a",), ["a"], "a" * 41, "\u00e9", "a\n"]),
        ("many", ("number", -3, 12), [None, 5, [], [5], (5, 13), (5, True), (5, None), (5,) * 7, ("5",), ((5,),)]),
        ("many", ("one", ("a", "b")), [None, "a", ["a"], ("a", "c"), ("a",) * 7]),
        ("many", ("name",), [None, "", "a", ("",), ("a",) * 7]),
        ("many", ("text", 2), [None, "", ("abc",), ("a",) * 7]),
        ("many", ("own", "a"), [None, "", ["a"], ("a", 5), ("a" * 41,), ("a",) * 7, ("a", None)]),
    ]

    def test_15_defaults_that_fit(self):
        for form, kind, defaults in self.FITTING:
            for default in defaults:
                self.assertIs(kinds.default_fits(form, kind, default), True, (form, kind, default))

    def test_15_defaults_that_do_not(self):
        for form, kind, defaults in self.OTHERS:
            for default in defaults:
                self.assertIs(kinds.default_fits(form, kind, default), False, (form, kind, default))

    def test_15_a_count_at_its_bounds(self):
        for default in range(-3, 13):
            self.assertIs(kinds.default_fits("count", None, default), 0 <= default <= 9)

    def test_15_a_many_of_six(self):
        for many in range(10):
            self.assertIs(kinds.default_fits("many", ("name",), ("a",) * many), many <= 6)

    def test_15_with_no_kind_nothing_fits_one_and_many(self):
        for kind in BAD_KINDS + ANY_THINGS:
            for default in (None, (), 0, 1, "", "a", ("a",)):
                self.assertIs(kinds.default_fits("one", kind, default), False)
                self.assertIs(kinds.default_fits("many", kind, default), False)

    def test_15_nothing_fits_what_is_no_form(self):
        forms = [thing for thing in ANY_THINGS if thing not in ("flag", "one")] + ["Flag", "on", "counts", "", "some"]
        for form in forms:
            for kind in (None, ("name",), ("number", 0, 1)):
                for default in (None, (), 0, 1, "a", ("a",)):
                    self.assertIs(kinds.default_fits(form, kind, default), False, form)

    def test_15_any_thing_as_a_default(self):
        for thing in ANY_THINGS:
            whole = type(thing) is int
            self.assertIs(kinds.default_fits("flag", None, thing), whole and thing in (0, 1))
            self.assertIs(kinds.default_fits("count", None, thing), whole and 0 <= thing <= 9)
            self.assertIs(kinds.default_fits("one", ALL_NUMBERS, thing), thing is None or whole and abs(thing) <= 999999)

    def test_6_by_names(self):
        self.assertIs(kinds.default_fits(default=1, kind=None, form="flag"), True)


if __name__ == "__main__":
    unittest.main()
