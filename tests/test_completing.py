"""Points 71 to 75: half lines, how far words are from one another, and what is meant."""

import random
import unittest

from callwords.completing import far, going_on, in_common, known, meant, nearest
from callwords.errors import BadSign, NoGrammar, NoLine, NoList, NoNumber, NoWord, Reads, TooMany
from callwords.grammars import Grammar
from callwords.lines import cut, quoted, state_of
from callwords.reading import is_open, reads, wanted
from callwords.writing import plain_words
from samples import COLOR, NAME, NONE, ODD, OWN, ROOTS, SIZE, SMALL_KINDS
from samples import command, count, flag, grammar, led, made, many, one, own_words, put_otherwise
from things import ANY_THINGS, Refusals
from trying import LETTERS, Walk, begun_names, goes_with, is_live, tried_reading, tried_wanted, vocabulary, walked
from trying import tried_wrong

TOOL = grammar("tool")
NO_WORDS_LIST = [None, True, 5, "a", {}, ["a" * 41], [5], ["a"] * 41, ("\n",), [None]]
NO_WORD = [thing for thing in ANY_THINGS if not isinstance(thing, str)] + ["a" * 41, "a\n", "\u00e9"]


def words_of(kind):
    """The known words of a kind, none of no kind."""
    return [] if kind is None else list(kind[1]) if kind[0] == "one" else own_words(kind)


def tried_known(root, words, begun):
    """The known words, by a Walk that takes each of those that may be one."""
    walk, found = walked(root, words), []
    if not is_live(root, walk):
        return []
    for thing in tried_wanted(root, words):
        found += [thing] if isinstance(thing, str) else words_of(thing)
    if not walk.waiting and not walk.closed:
        options = walk.nodes[-1][1]
        if begun[:2] == "--":
            name = begun_names([option[0] for option in options]).get(begun[2:].partition("=")[0])
            if "=" in begun and name:
                found += [begun[:begun.index("=") + 1] + word for word in words_of(walk.option(name)[3])]
        elif begun[:1] == "-" and len(begun) > 1:
            found += tried_letters(walk.copy(), options, begun)
    told = []
    for word in found:
        if word.startswith(begun) and word not in told and goes_with(root, walk, [word]):
            told.append(word)
    return told


def tried_letters(walk, options, begun):
    """What goes on with letters, of a Walk that takes them one by one."""
    for at, letter in enumerate(begun[1:]):
        names = [option[0] for option in options if option[1] == letter]
        if not names or not walk.named(names[0]):
            return []
        if walk.waiting:
            return [begun[:at + 2] + word for word in words_of(walk.option(walk.waiting)[3]) if word]
    return [begun + option[1] for option in options if option[1]]


def begun_texts(chance, root, most):
    """Texts with which words of a grammar may begin."""
    texts = ["", "-", "--", "--no-", "z"]
    for word in chance.sample(vocabulary(root), min(most, len(vocabulary(root)))):
        texts += [word, word[:chance.randint(0, len(word))], word + "="]
    letters = [word for word in vocabulary(root) if len(word) == 2 and word[0] == "-" and word[1] in LETTERS]
    for _ in range(most if letters else 0):
        text = "-" + "".join(chance.choice(letters)[1] for _ in range(chance.randint(1, 3)))
        texts += [text, text + chance.choice(["b", "-", "s", "1", ""])]
    return texts


class KnownTests(Refusals):
    """Points 71 and 75."""

    def assert_known(self, told, words, begun, *wants):
        """Just these, in this order, of a list and of a tuple."""
        self.assert_same(known(told, list(words), begun), list(wants))
        self.assert_same(known(told, tuple(words), begun), list(wants))

    def test_71_behind_no_words(self):
        told = Grammar(command("a", [flag("loud", "l"), flag("lower"), count("level", "v"), one("size", SIZE, "s")],
                               [("what", COLOR, "maybe")]), own=OWN)
        self.assert_known(told, [], "", "--loud", "-l", "--no-loud", "--lower", "--no-lower", "--level", "-v", "--size",
                          "-s", "--", "red", "green", "grey")
        self.assert_known(told, [], "-", "--loud", "-l", "--no-loud", "--lower", "--no-lower", "--level", "-v", "--size",
                          "-s", "--")
        self.assert_known(told, [], "--lo", "--loud", "--lower")
        self.assert_known(told, [], "--no-l", "--no-loud", "--no-lower")
        self.assert_known(told, [], "gr", "green", "grey")
        self.assert_known(told, [], "x")
        self.assert_known(told, ["red"], "", "--loud", "-l", "--no-loud", "--lower", "--no-lower", "--level", "-v",
                          "--size", "-s", "--")
        self.assert_known(told, ["--"], "", "red", "green", "grey")
        self.assert_known(told, ["--"], "-")
        self.assert_known(told, ["--", "red"], "")
        self.assert_known(told, ["nothing"], "")

    def test_71_a_places_words_and_options_at_once(self):
        told = Grammar(command("a", [flag("aa", "a")], [("what", ("own", "dash"), "some")]),
                       own={"dash": lambda: ["-a", "--b", "-", "--aa", "x"]})
        self.assert_known(told, [], "", "--aa", "-a", "--no-aa", "--", "-", "x")
        self.assert_known(told, ["x", "-a"], "", "--", "-", "x")
        self.assert_known(told, ["--"], "", "-a", "--b", "-", "--aa", "x")
        self.assert_known(told, ["--"], "-", "-a", "--b", "-", "--aa")

    def test_71_behind_a_waiting_option(self):
        told = Grammar(command("a", [one("size", ODD, "s"), many("colors", COLOR, "c"), one("to", NAME, "t")]), own=OWN)
        self.assert_known(told, ["--size"], "", "-x", "--", "--size=1", "-1")
        self.assert_known(told, ["-s"], "-", "-x", "--", "--size=1", "-1")
        self.assert_known(told, ["-s"], "--size=", "--size=1")
        self.assert_known(told, ["-credo"], "")
        self.assert_known(told, ["-cred", "--col"], "g", "green", "grey")
        self.assert_known(told, ["-t"], "")

    def test_71_behind_a_name_and_its_sign(self):
        told = Grammar(command("a", [one("size", SIZE, "s"), many("tint", COLOR, "t"), flag("tip"), count("ci"),
                                     one("no", COLOR), one("none", NONE)]), own=OWN)
        self.assert_known(told, [], "--size=", "--size=big", "--size=small")
        self.assert_known(told, [], "--s=", "--s=big", "--s=small")
        self.assert_known(told, [], "--si=b", "--si=big")
        self.assert_known(told, [], "--size=x")
        self.assert_known(told, [], "--no=g", "--no=green", "--no=grey")
        for begun in ("--t=", "--tip=", "--ci=", "--none=", "--no-tip=", "--x=", "--=", "-s="):
            self.assert_known(told, [], begun)
        self.assert_known(told, ["--size=big"], "--size=")
        self.assert_known(told, ["--tint=red"] * 5, "--ti=r")
        self.assert_known(told, ["--tint=red"] * 5, "--tin=r", "--tin=red")
        self.assert_known(told, ["--tint=red"] * 6, "--tint=r")
        self.assert_known(told, ["--"], "--size=")

    def test_71_behind_letters(self):
        told = Grammar(command("a", [flag("loud", "l"), count("level", "v"), one("size", SIZE, "s"), many("by", NAME, "b"),
                                     flag("bare"), many("tint", COLOR, "t")], groups=[("most", ("loud", "size"))]), own=OWN)
        self.assert_known(told, [], "-l", "-l", "-lv", "-lb", "-lt")
        self.assert_known(told, [], "-v", "-v", "-vl", "-vv", "-vs", "-vb", "-vt")
        self.assert_known(told, [], "-vv", "-vvl", "-vvv", "-vvs", "-vvb", "-vvt")
        self.assert_known(told, [], "-" + "v" * 9, *["-" + "v" * 9 + letter for letter in "lsbt"])
        self.assert_known(told, [], "-" + "v" * 10)
        self.assert_known(told, [], "-s", "-s", "-sbig", "-ssmall")
        self.assert_known(told, [], "-vsb", "-vsbig")
        self.assert_known(told, [], "-vt", "-vtred", "-vtgreen", "-vtgrey")
        self.assert_known(told, [], "-vtg", "-vtgreen", "-vtgrey")
        self.assert_known(told, [], "-b", "-b")
        for begun in ("-vb", "-vx", "-vsx", "-vl1", "-lsb", "-v=", "-V"):
            self.assert_known(told, [], begun)
        self.assert_known(told, ["-l"], "-v", "-v", "-vv", "-vb", "-vt")
        self.assert_known(told, ["--"], "-v")

    def test_71_no_word_is_longer_than_forty_signs(self):
        told = Grammar(command("a", [count(name * 2, name) for name in "abcd"] + [one("to", ("own", "w"), "t")]),
                       own={"w": lambda: ["w" * 20, "x"]})
        begun = "-" + "".join(letter * 9 for letter in "abcd") + "t"
        self.assertIs(is_open(told, [], begun + "w"), True)
        self.assert_known(told, [], begun, begun + "x")
        self.assert_known(told, [], begun + "w")
        self.assertEqual(going_on(told, begun + "w"), [])

    def test_71_forty_words_play_no_part(self):
        told = Grammar(command("a", [], [("some", COLOR, "some")]))
        self.assert_known(told, ["red"] * 29, "r", "red")
        self.assert_known(told, ["red"] * 30, "r")
        counts = Grammar(command("a", [count(name * 2, name) for name in "abcdef"], commands=[command("b")]))
        self.assert_known(counts, ["--" + name * 2 for name in "abcde" for _ in range(8)], "b", "b")

    def test_71_against_all_words_tried(self):
        for number in range(7100, 7140):
            root, chance = made(number, most=2, kinds=SMALL_KINDS + [COLOR], levels=1), random.Random(number)
            told = Grammar(root, own=OWN)
            for _ in range(3):
                words = led(chance, root, 4, vocabulary(root), Walk(root), is_live)
                if chance.random() < 0.2:
                    words = put_otherwise(chance, words)
                for begun in begun_texts(chance, root, 4):
                    self.assert_same(known(told, words, begun), tried_known(root, words, begun))

    def test_71_samples(self):
        for name, root in ROOTS.items():
            chance = random.Random(name)
            for _ in range(4):
                words = led(chance, root, 5, vocabulary(root), Walk(root), is_live)
                for begun in begun_texts(chance, root, 6):
                    self.assert_same(known(grammar(name), words, begun), tried_known(root, words, begun))

    def test_75_known_words_one_by_one_lead_on(self):
        for number in range(7200, 7220):
            root, chance = made(number, most=2, kinds=SMALL_KINDS, levels=1), random.Random(number)
            told, words = Grammar(root, own=OWN), []
            while len(words) < 12:
                found = known(told, words, "")
                if not found:
                    break
                words.append(chance.choice(found))
                self.assertTrue(is_live(root, walked(root, words)))
                self.assertTrue(reads(told, words) or wanted(told, words))

    def test_75_lists_of_whole_names_are_written_so(self):
        for number in range(7300, 7330):
            root, chance = made(number, most=2, kinds=SMALL_KINDS + [COLOR], levels=1), random.Random(number)
            told = Grammar(root, own=OWN)
            words = led(chance, root, 8, vocabulary(root), Walk(root), is_live)
            if tried_reading(root, words) is None:
                continue
            words = plain_words(told, words)
            for at, word in enumerate(words):
                head = word[:word.find("=") + 1] if word.startswith("--") else ""
                if word in known(told, words[:at], "") + known(told, words[:at], head):
                    continue
                free = [thing for thing in wanted(told, words[:at]) if isinstance(thing, tuple)]
                free += wanted(told, words[:at] + [head[:-1]]) if head else []
                self.assertTrue([kind for kind in free if not words_of(kind)], (words, at))

    def test_71_refused(self):
        for thing in [None, True, "tool", ROOTS["tool"], {}]:
            self.assert_refuses_found(NoGrammar, thing, known, thing, None, None)
        for thing in NO_WORDS_LIST:
            self.assert_refuses_found(NoList, thing, known, TOOL, thing, None)
        for thing in NO_WORD:
            self.assert_refuses_found(NoWord, thing, known, TOOL, ["no", "such"], thing)

    def test_7_told_anew_and_handed_in_by_names(self):
        words = ["put"]
        found = known(grammar=TOOL, words=words, begun="--f")
        self.assertEqual(found, ["--force", "--fast"])
        found.append("x")
        self.assertEqual(known(TOOL, words, "--f"), ["--force", "--fast"])
        self.assertEqual(words, ["put"])


class GoingOnTests(Refusals):
    """Point 72."""

    def setUp(self):
        own = {"odd": lambda: ["a b", "a 'b", 'a "c', "a\\d", "plain"]}
        self.grammar = Grammar(command("t", [one("size", ("own", "odd"), "s")], [("more", ("own", "odd"), "rest")]), own=own)

    def assert_goes_on(self, line, *words):
        """Just these words, and each told text makes of the line one that is cut to its words and this one."""
        found = going_on(self.grammar, line)
        self.assertEqual([word for word, _ in found], list(words))
        for word, text in found:
            self.assertIs(type((word, text)), tuple)
            self.assertTrue(text.endswith(" "))
            self.assertEqual(cut(line + text), state_of(line)[0] + [word], (line, text))

    def test_72_behind_a_blank(self):
        self.assertEqual(going_on(self.grammar, "--size "), [
            ("a b", "a\\ b "), ("a 'b", "a\\ \\'b "), ('a "c', 'a\\ \\"c '), ("a\\d", "a\\\\d "), ("plain", "plain ")])
        self.assert_goes_on("--size ", "a b", "a 'b", 'a "c', "a\\d", "plain")
        self.assert_goes_on("", "--size", "-s", "--", "a b", "a 'b", 'a "c', "a\\d", "plain")
        self.assert_goes_on("plain\n", "--size", "-s", "--", "a b", "a 'b", 'a "c', "a\\d", "plain")
        self.assert_goes_on("nothing ")

    def test_72_within_quotes_and_behind_signs_that_need_more(self):
        self.assertEqual(going_on(self.grammar, "p"), [("plain", "lain ")])
        self.assertEqual(going_on(self.grammar, "'a"), [
            ("a b", " b' "), ("a 'b", " '\\''b' "), ('a "c', ' "c\' '), ("a\\d", "\\d' ")])
        self.assertEqual(going_on(self.grammar, '-s "a'), [
            ("a b", ' b" '), ("a 'b", " 'b\" "), ('a "c', ' \\"c" '), ("a\\d", '\\\\d" ')])
        for line in ("a\\ ", "'a ", '"a ', "a' '", 'a" "'):
            self.assert_goes_on(line, "a b", "a 'b", 'a "c')
            self.assert_goes_on("--s " + line, "a b", "a 'b", 'a "c')
        self.assert_goes_on("a\\ \\'", "a 'b")
        self.assert_goes_on('"a \\"', 'a "c')
        self.assert_goes_on("a\\\\", "a\\d")
        self.assert_goes_on("--size=a\\ ", "--size=a b", "--size=a 'b", '--size=a "c')
        self.assert_goes_on("-s'a ", "-sa b", "-sa 'b", '-sa "c')
        self.assert_goes_on("''", "--size", "-s", "--", "a b", "a 'b", 'a "c', "a\\d", "plain")
        self.assert_goes_on("'", "--size", "-s", "--", "a b", "a 'b", 'a "c', "a\\d", "plain")

    def test_72_what_begins_all_of_them(self):
        self.assert_same(in_common(self.grammar, "-s a"), "a")
        self.assert_same(in_common(self.grammar, "-s 'a "), "a ")
        self.assert_same(in_common(self.grammar, "-s 'a '\\'"), "a 'b")
        self.assert_same(in_common(self.grammar, "-s "), "")
        self.assert_same(in_common(self.grammar, "--si"), "--size")
        self.assert_same(in_common(self.grammar, "-"), "-")
        self.assert_same(in_common(TOOL, "put --f"), "--f")
        self.assert_same(in_common(TOOL, "pu"), "pu")
        self.assert_same(in_common(TOOL, "put --n"), "--no-f")
        self.assert_same(in_common(TOOL, "put --t"), "--t")
        self.assert_same(in_common(TOOL, "put --time"), "--times")
        self.assert_same(in_common(TOOL, "x 'y"), "y")
        self.assert_same(in_common(TOOL, "x "), "")

    def test_72_samples(self):
        for name, root in ROOTS.items():
            chance = random.Random(name)
            for _ in range(20):
                words = led(chance, root, 4, vocabulary(root), Walk(root), is_live)
                word = chance.choice(vocabulary(root))
                begun = chance.choice(["", "'", '"']) + word[:chance.randint(0, len(word))].replace("'", "").replace(" ", "")
                line = "".join(quoted(word) + " " for word in words) + begun
                found = going_on(grammar(name), line)
                state = state_of(line)
                self.assertEqual([word for word, _ in found], known(grammar(name), state[0], state[1] or ""))
                for word, text in found:
                    self.assertEqual(cut(line + text), state[0] + [word])
                common = in_common(grammar(name), line)
                self.assertTrue(all(word.startswith(common) for word, _ in found))
                longer = {word[:len(common) + 1] for word, _ in found}
                self.assertTrue(len(longer) > 1 or longer <= {common} or not found)

    def test_72_refused(self):
        for ask in (going_on, in_common):
            self.assert_refuses_found(NoGrammar, None, ask, None, None)
            for thing in [None, True, 5, "a" * 2001, "\u00e9", ["a"]]:
                self.assert_refuses_found(NoLine, thing, ask, TOOL, thing)
            self.assert_refused(BadSign, {"at": 40}, ask, TOOL, "a" * 41)
            self.assert_refused(BadSign, {"at": 1}, ask, TOOL, "a\\")
            self.assert_refused(BadSign, {"at": 2}, ask, TOOL, "'a\n")
            self.assert_refused(TooMany, {"many": 41}, ask, TOOL, "a " * 40 + "a")
            ask(grammar=TOOL, line="a " * 40)


def one_step(word, signs):
    """All words one step away, and this one."""
    found = {word}
    for at in range(len(word) + 1):
        found.update(word[:at] + sign + word[at:] for sign in signs if len(word) < 40)
        found.update(word[:at] + sign + word[at + 1:] for sign in signs if at < len(word))
        found.add(word[:at] + word[at + 1:])
        found.add(word[:at] + word[at + 1:at + 2] + word[at:at + 1] + word[at + 2:])
    return found


class FarTests(Refusals):
    """Point 73."""

    def test_73_one_and_two_steps(self):
        for word, other, steps in [
            ("", "", 0), ("put", "put", 0), ("put", "puts", 1), ("put", "pt", 1), ("put", "pot", 1), ("put", "upt", 1),
            ("", "a", 1), ("", "ab", 2), ("", "abc", None), ("put", "tup", 2), ("ab", "ba", 1), ("abc", "cab", 2),
            ("abcd", "badc", 2), ("aa", "aa", 0), ("put", "pull", 2), ("put", "list", None), ("ca", "abc", 2),
            ("abc", "ca", 2), ("acb", "bca", 2), ("abcd", "dabc", 2), ("abcde", "eabcd", 2), ("abcde", "ebcxa", None), ("a" * 40, "b" + "a" * 39, 1), ("ab" * 20, "ba" * 20, 2),
            ("A", "a", 1), (" a", "a ", 1), ("abcdef", "abfedc", None),
        ]:
            self.assert_same(far(word, other), steps)
            self.assert_same(far(other, word), steps)

    def test_73_against_all_words_one_and_two_steps_away(self):
        chance = random.Random(73)
        for _ in range(150):
            word = "".join(chance.choice("abc") for _ in range(chance.randint(0, 6)))
            once = one_step(word, "abc")
            twice = {further for near in once for further in one_step(near, "abc")}
            others = [chance.choice(sorted(twice)) for _ in range(10)]
            others += ["".join(chance.choice("abc") for _ in range(chance.randint(0, 7))) for _ in range(10)]
            for other in others:
                steps = 0 if other == word else 1 if other in once else 2 if other in twice else None
                self.assert_same(far(word, other), steps)

    def test_73_a_sign_exchanged_and_another_between(self):
        chance = random.Random(731)
        for _ in range(100):
            ahead, behind = "".join(chance.choice("xyz") for _ in range(5)), "".join(chance.choice("xyz") for _ in range(5))
            self.assertEqual(far(ahead + "ab" + behind, ahead + "bca" + behind), 2)
            self.assertEqual(far(ahead + "bca" + behind, ahead + "ab" + behind), 2)

    def test_73_words_of_forty_signs(self):
        word = "".join(chr(48 + at) for at in range(40))
        self.assertEqual(far(word, word[1:] + "a"), 2)
        self.assertEqual(far(word, word[:20] + word[21] + word[20] + word[22:]), 1)
        self.assertEqual(far(word, word[2:] + "ab"), None)
        self.assertEqual(far(word, word[:10] + "x" + word[10:39]), 2)
        self.assertEqual(far(word, "b" * 40), None)

    def test_73_nearest(self):
        words = ["pull", "put", "pus", "puts", "putty", "put", "x", "pus"]
        self.assert_same(nearest("put", words), [("put", 0), ("pus", 1), ("puts", 1), ("pull", 2), ("putty", 2)])
        self.assert_same(nearest("put", tuple(words), most=2), nearest("put", words))
        self.assert_same(nearest("put", words, most=1), [("put", 0), ("pus", 1), ("puts", 1)])
        self.assert_same(nearest("put", []), [])
        self.assert_same(nearest(word="", words=["ab", "a", "abc", ""]), [("", 0), ("a", 1), ("ab", 2)])
        self.assertEqual(nearest("put", words * 20), nearest("put", words))

    def test_73_refused(self):
        for thing in NO_WORD:
            self.assert_refuses_found(NoWord, thing, far, thing, None)
            self.assert_refuses_found(NoWord, thing, far, "a", thing)
            self.assert_refuses_found(NoWord, thing, nearest, thing, None, most=None)
        for thing in [None, "a", 5, {}, ["a", 5], ["a" * 41], ("a", None), {"a": 1}]:
            self.assert_refuses_found(NoList, thing, nearest, "a", thing, most=None)
        for thing in [0, 3, -1, True, None, "1", [], 10 ** 29]:
            self.assert_refuses_found(NoNumber, thing, nearest, "a", ["a"], most=thing)

    def test_7_a_told_list_changed_changes_no_answer(self):
        nearest("a", ["a"]).append(1)
        self.assertEqual(nearest("a", ["a"]), [("a", 0)])


class MeantTests(Refusals):
    """Point 74."""

    def test_74_the_nearest_known_words_at_the_wrong_one(self):
        self.assert_same(meant(TOOL, ["pot"]), (0, ["put"]))
        self.assert_same(meant(TOOL, ["pulp"]), (0, ["pull", "put"]))
        self.assert_same(meant(TOOL, ["--laud"]), (0, ["--loud"]))
        self.assert_same(meant(TOOL, ["-x", "put"]), (0, ["-l", "-s", "-v", "--"]))
        self.assert_same(meant(TOOL, ["put", "--frce", "a"]), (1, ["--force"]))
        self.assert_same(meant(TOOL, ["put", "--to", "bag"]), (2, ["big"]))
        self.assert_same(meant(TOOL, ["put", "--to", "zzzzz"]), (2, []))
        self.assert_same(meant(TOOL, ("purge", "x")), (1, ["--"]))
        self.assert_same(meant(TOOL, ("purge", "", "x")), (1, ["--"]))

    def test_74_behind_all_words(self):
        self.assert_same(meant(TOOL, []), (0, []))
        self.assert_same(meant(TOOL, ["put"]), (1, []))
        self.assert_same(meant(TOOL, ["pul"]), (1, []))
        self.assert_same(meant(TOOL, ["put", "--to"]), (2, []))
        self.assert_same(meant(grammar("shut"), []), (0, []))
        self.assert_same(meant(grammar("shut"), ["--on"]), (0, []))

    def test_74_against_reading_and_known_words(self):
        for number in range(7400, 7440):
            root, chance = made(number, most=2, kinds=SMALL_KINDS + [COLOR], levels=1), random.Random(number)
            told = Grammar(root, own=OWN)
            words = put_otherwise(chance, led(chance, root, 4, vocabulary(root), Walk(root), is_live))
            if tried_reading(root, words) is not None:
                self.assert_refuses_found(Reads, words, meant, told, words)
                continue
            at = tried_wrong(root, words)[0]
            found = [] if at == len(words) else nearest(words[at], tried_known(root, words[:at], ""))
            self.assert_same(meant(told, words), (at, [word for word, _ in found]))

    def test_74_refused(self):
        self.assert_refuses_found(NoGrammar, None, meant, None, None)
        for thing in NO_WORDS_LIST:
            self.assert_refuses_found(NoList, thing, meant, TOOL, thing)
        for thing in (["purge"], ("put", "a")):
            self.assert_refuses_found(Reads, thing, meant, grammar=TOOL, words=thing)


if __name__ == "__main__":
    unittest.main()
