"""Points 91 to 96: changes, editions, readings and words led over them."""

import random
import unittest

from callwords.editions import Editions, changed, led_reading, same_call
from callwords.errors import Gone, Lacks, NoCall, NoChange, NoGrammar, NoList, NoReading, NotThere, NoWay, Unfit, Wrong
from callwords.grammars import Grammar, command_words, flag_words, option_words
from callwords.layers import call_line, called
from callwords.reading import read, reads
from callwords.writing import shortest
from changing import call_led, made_change, small_grammar
from samples import NAME, NUMBER, OWN, ROOTS, SIZE, TEXT, command, count, flag, grammar, led, made, many, one
from things import ANY_THINGS, Refusals, anew
from trying import Walk, is_live, tried_reading, vocabulary

TOOL = grammar("tool")
PUT = command("put", [flag("loud", "l"), one("size", NUMBER, "s", 4), many("tag", TEXT, "t")],
              [("what", NAME, "one"), ("more", TEXT, "rest")],
              [("most", ("loud", "size")), ("needs", ("tag", "size", "loud")), ("with", ("size", "tag"))])
TOP = command("top", [count("level", "v")], commands=[PUT, command("list")])
GRAMMAR = Grammar(TOP, own=OWN)
GOOD_CHANGES = [
    ("rename", (), "level", "depth"), ("command", (), "put", "set"), ("letter", (), "level", "x"),
    ("letter", (), "level", None), ("gone", ("put",), "tag"), ("default", (), "level", 3),
    ("more", (), flag("dry", "d")), ("kind", ("put",), "what", ("text", 3)),
]
NO_CHANGES = [
    thing for thing in ANY_THINGS
] + [
    ("rename", (), "level"), ("rename", (), "level", "Up"), ("rename", (), "Up", "level"), ("rename", [], "level", "up"),
    ["rename", (), "level", "up"], ("rename", ("put", 5), "tag", "up"), ("rename", (), "level", "up", 1),
    ("rename", "put", "tag", "up"), ("command", (), "put", None), ("command", (), "put"), ("letter", (), "level", "ab"),
    ("letter", (), "level", ""), ("letter", (), "level", "A"), ("letter", (), "level"), ("gone", ()), ("gone", (), None),
    ("gone", (), "level", 1), ("default", (), "level"), ("default", (), 5, 1), ("more", (), one("need", NAME, need=True)),
    ("more", ()), ("more", None, flag("dry")), ("kind", (), "level"), ("kind", (), "", NAME), ("Rename", (), "a", "b"),
    (("rename",), (), "level", "up"), ("place", (), "level", "up"), (), ("more", (), flag("dry"), 1),
]


def put_of(told):
    """The command put of a Grammar."""
    return told.command(("put",))


class ChangedTests(Refusals):
    """Point 91."""

    def test_91_rename(self):
        told = changed(GRAMMAR, [("rename", ("put",), "size", "len"), ("rename", ("put",), "more", "rest")])
        self.assertEqual(put_of(told)[1][1], one("len", NUMBER, "s", 4))
        self.assertEqual(put_of(told)[2], (("what", NAME, "one"), ("rest", TEXT, "rest")))
        self.assertEqual(put_of(told)[3], (("most", ("loud", "len")), ("needs", ("tag", "len", "loud")),
                                           ("with", ("len", "tag"))))
        self.assertEqual(told.root()[1], TOP[1])

    def test_91_command(self):
        told = changed(GRAMMAR, [("command", (), "put", "set"), ("rename", ("set",), "tag", "tags")])
        self.assertEqual(told.paths(), [(), ("set",), ("list",)])
        self.assertEqual(told.command(("set",))[1][2], many("tags", TEXT, "t"))
        deep = Grammar(command("a", commands=[command("b", commands=[command("c"), command("d")])]))
        self.assertEqual(changed(deep, [("command", ("b",), "c", "e")]).paths(), [(), ("b",), ("b", "e"), ("b", "d")])

    def test_91_letter(self):
        told = changed(GRAMMAR, [("letter", ("put",), "loud", None), ("letter", ("put",), "size", "l")])
        self.assertEqual([option[1] for option in put_of(told)[1]], [None, "l", "t"])

    def test_91_gone(self):
        told = changed(GRAMMAR, [("gone", ("put",), "tag")])
        self.assertEqual([option[0] for option in put_of(told)[1]], ["loud", "size"])
        self.assertEqual(put_of(told)[3], (("most", ("loud", "size")),))
        told = changed(GRAMMAR, [("gone", ("put",), "loud")])
        self.assertEqual(put_of(told)[3], (("needs", ("tag", "size")), ("with", ("size", "tag"))))
        told = changed(GRAMMAR, [("gone", ("put",), "size"), ("gone", ("put",), "loud")])
        self.assertEqual(put_of(told)[3], ())
        wide = Grammar(command("a", [flag("aa"), flag("bb"), flag("cc")], groups=[
            ("just", ("aa", "bb", "cc")), ("with", ("cc", "aa")), ("needs", ("aa", "bb", "cc")), ("needs", ("bb", "aa"))]))
        self.assertEqual(changed(wide, [("gone", (), "aa")]).root()[3], (("just", ("bb", "cc")),))

    def test_91_default_more_kind(self):
        told = changed(GRAMMAR, [
            ("default", ("put",), "size", None), ("default", ("put",), "tag", ("a", "b")), ("default", (), "level", 9),
            ("more", (), flag("dry", "d")), ("kind", ("put",), "size", ("text", 3)), ("kind", ("put",), "what", SIZE),
        ])
        self.assertEqual(told.root()[1], (count("level", "v", 9), flag("dry", "d")))
        self.assertEqual(put_of(told)[1][1:], (one("size", ("text", 3), "s"), many("tag", TEXT, "t", ("a", "b"))))
        self.assertEqual(put_of(told)[2][0], ("what", SIZE, "one"))

    def test_91_names_of_the_changes_ahead(self):
        told = changed(GRAMMAR, [
            ("rename", ("put",), "loud", "tmp"), ("rename", ("put",), "size", "loud"), ("rename", ("put",), "tmp", "size"),
            ("more", ("put",), flag("extra")), ("letter", ("put",), "extra", "e"), ("gone", ("put",), "loud"),
            ("more", ("put",), flag("loud")),
        ])
        self.assertEqual([option[:2] for option in put_of(told)[1]], [
            ("size", "l"), ("tag", "t"), ("extra", "e"), ("loud", None)])
        self.assertEqual(changed(GRAMMAR, [("command", (), "put", "set"), ("command", (), "list", "put")]).paths(),
                         [(), ("set",), ("put",)])

    def test_91_no_changes_and_eight(self):
        for nothing in ([], ()):
            self.assertEqual(changed(GRAMMAR, nothing), GRAMMAR)
        eight = [("letter", (), "level", letter) for letter in "abcdefgh"]
        self.assertEqual(changed(grammar=GRAMMAR, changes=tuple(eight)).root()[1][0][1], "h")
        nine = eight + [("letter", (), "level", "v")]
        self.assert_refuses_found(NoList, nine, changed, GRAMMAR, nine)

    def test_91_the_same_own_table(self):
        told = changed(GRAMMAR, [("kind", ("put",), "what", SIZE)])
        self.assertEqual(told.own_words(SIZE), ["big", "small"])
        self.assertEqual(told.own_words(("own", "dash")), ["-a", "--b"])
        self.assertEqual(GRAMMAR.command(("put",)), PUT)

    def test_91_refused(self):
        for thing in [None, True, TOP, "tool", {}]:
            self.assert_refuses_found(NoGrammar, thing, changed, thing, None)
        for thing in [None, True, 5, "rename", {}, {"a": "b"}]:
            self.assert_refuses_found(NoList, thing, changed, GRAMMAR, thing)
        for thing in NO_CHANGES:
            self.assert_refuses_found(NoChange, thing, changed, GRAMMAR, [("letter", (), "level", "x"), thing, None])
        for change in GOOD_CHANGES:
            path, name = ("list", "put"), change[2]
            away = (change[0], path) + change[2:]
            self.assert_refuses_found(NotThere, path, changed, GRAMMAR, [away, None])
            if change[0] != "more":
                for none in ("nosuch", "lis", change[0][:3]):
                    self.assert_refused(NotThere, {"found": none}, changed, GRAMMAR,
                                        [change[:2] + (none,) + change[3:], None])
        for how in ("letter", "gone", "default"):
            change = (how, ("put",), "what") + {"letter": ("x",), "gone": (), "default": ("a",)}[how]
            self.assert_refused(NotThere, {"found": "what"}, changed, GRAMMAR, [change])
        self.assert_refused(NotThere, {"found": "level"}, changed, GRAMMAR, [("command", (), "level", "put")])
        self.assert_refused(NotThere, {"found": "put"}, changed, GRAMMAR, [("rename", (), "put", "set")])

    def test_91_unfit(self):
        for change, where, why, found in [
            (("rename", ("put",), "size", "what"), ("put",), "twice", "what"),
            (("rename", ("put",), "what", "size"), ("put",), "twice", "size"),
            (("command", (), "put", "list"), (), "twice", "list"),
            (("letter", ("put",), "size", "l"), ("put",), "twice", "l"),
            (("default", ("put",), "size", 13), ("put",), "default", "size"),
            (("default", ("put",), "size", "4"), ("put",), "default", "size"),
            (("default", (), "level", True), (), "default", "level"),
            (("default", (), "level", [1]), (), "default", "level"),
            (("default", ("put",), "tag", ["a"]), ("put",), "default", "tag"),
            (("default", ("put",), "tag", ("a",) * 7), ("put",), "default", "tag"),
            (("kind", ("put",), "size", NAME), ("put",), "default", "size"),
            (("kind", ("put",), "size", ("number", 5, 9)), ("put",), "default", "size"),
            (("kind", ("put",), "what", ("own", "nosuch")), ("put",), "own", "nosuch"),
            (("more", (), flag("level")), (), "twice", "level"),
            (("more", (), flag("dry", "v")), (), "twice", "v"),
            (("more", (), count("dry", "d", 10)), (), "default", "dry"),
        ]:
            self.assert_refused(Unfit, {"where": where, "why": why, "found": found}, changed, GRAMMAR, [change, None])

    def test_91_unfit_by_its_form(self):
        for change, path, at, part in [
            (("rename", ("put",), "size", "loud"), ("put",), 1, one("loud", NUMBER, "s", 4)),
            (("rename", (), "level", "a"), (), 0, count("a", "v")),
            (("kind", (), "level", NAME), (), 0, ("level", "v", "count", NAME, 0, False, None)),
            (("kind", ("put",), "size", None), ("put",), 1, ("size", "s", "one", None, 4, False, None)),
            (("kind", ("put",), "tag", ["name"]), ("put",), 2, ("tag", "t", "many", ["name"], (), False, None)),
            (("more", (), None), (), 1, None),
            (("more", (), ["dry"]), (), 1, ["dry"]),
            (("more", (), ("dry", None, "flag", None, 0, 1, None)), (), 1, ("dry", None, "flag", None, 0, 1, None)),
        ]:
            with self.assertRaises(Unfit) as caught:
                changed(GRAMMAR, [change, None])
            self.assertEqual((caught.exception.where, caught.exception.why), (path, "form"))
            self.assertEqual(caught.exception.found[1][at], part)
        needed = Grammar(command("a", [one("aa", NAME, need=True)]))
        with self.assertRaises(Unfit) as caught:
            changed(needed, [("default", (), "aa", "b")])
        self.assertEqual(caught.exception.why, "form")
        full = Grammar(command("a", [flag(letter * 2) for letter in "abcdef"]))
        with self.assertRaises(Unfit) as caught:
            changed(full, [("more", (), flag("gg"))])
        self.assertEqual(caught.exception.why, "form")

    def test_91_change_by_change(self):
        self.assert_refused(Unfit, {"where": (), "why": "twice", "found": "list"}, changed, GRAMMAR,
                            [("command", (), "put", "list"), ("command", (), "list", "b"), ("gone", (), "nosuch")])
        self.assert_refuses_found(NoChange, None, changed, GRAMMAR, [("letter", (), "level", "x"), None, ("gone",)])
        self.assert_refused(NotThere, {"found": "level"}, changed, GRAMMAR,
                            [("rename", (), "level", "up"), ("gone", (), "level"), None])
        self.assert_refused(NotThere, {"found": ("put",)}, changed, GRAMMAR,
                            [("command", (), "put", "set"), ("gone", ("put",), "tag")])

    def test_7_what_is_handed_in_stays(self):
        changes = list(GOOD_CHANGES[1:3])
        before, root = anew(changes), anew(GRAMMAR.root())
        changed(GRAMMAR, changes)
        self.assertEqual((changes, GRAMMAR.root()), (before, root))


class LedReadingTests(Refusals):
    """Point 93."""

    def assert_led(self, changes, reading, wants):
        """Led so, in one lot, and one change behind another where what comes between is a reading."""
        self.assert_same(led_reading(GRAMMAR, changes, reading), wants)
        told, between = GRAMMAR, reading
        for change in changes:
            between = led_reading(told, (change,), between)
            told = changed(told, [change])
        self.assert_same(between, wants)

    def assert_gone(self, changes, words, where, name):
        """Refused with Gone."""
        self.assert_refused(Gone, {"where": where, "name": name}, led_reading, GRAMMAR, changes, read(GRAMMAR, words))

    def test_93_names_become_the_new_ones(self):
        reading = read(GRAMMAR, ["-vv", "put", "-l", "a", "b"])
        self.assert_led([
            ("command", (), "put", "set"), ("rename", ("set",), "loud", "noisy"), ("rename", ("set",), "what", "it"),
            ("rename", ("set",), "more", "rest"), ("rename", (), "level", "up"), ("command", (), "list", "put"),
        ], reading, (("set",), ((("up", 2),), (("noisy", 1),)), (("it", "a"), ("rest", ("b",)))))

    def test_93_what_does_not_touch_it(self):
        reading = read(GRAMMAR, ["list"])
        self.assert_led([("gone", ("put",), "tag"), ("default", ("put",), "size", 5), ("rename", ("put",), "loud", "list"),
                         ("letter", (), "level", "x"), ("more", (), flag("dry", default=1)), ("kind", ("put",), "what", SIZE)],
                        reading, reading)

    def test_93_gone(self):
        self.assert_gone([("gone", (), "level")], ["-v", "list"], (), "level")
        self.assert_gone([("command", (), "put", "set"), ("rename", ("set",), "loud", "dry"), ("gone", ("set",), "dry")],
                         ["put", "--no-loud", "a"], ("set",), "dry")
        self.assert_led([("gone", (), "level")], read(GRAMMAR, ["list"]), (("list",), ((), ()), ()))

    def test_93_kinds(self):
        self.assert_gone([("default", ("put",), "size", None), ("kind", ("put",), "size", ("number", 5, 9))],
                         ["put", "a"], ("put",), "size")
        lines = Grammar(command("a", [one("aa", NUMBER, "a"), many("bb", TEXT, "b")],
                                [("cc", NAME, "maybe"), ("dd", TEXT, "rest")]))
        reading = read(lines, ["-a5", "-bx", "-by", "c", "d", "e"])
        for change, goes in [
            (("kind", (), "aa", ("number", 5, 9)), False), (("kind", (), "aa", ("number", 6, 9)), True),
            (("kind", (), "aa", TEXT), True), (("kind", (), "bb", NAME), False), (("kind", (), "bb", ("one", ("x",))), True),
            (("kind", (), "cc", ("one", ("c",))), False), (("kind", (), "cc", ("one", ("d",))), True),
            (("kind", (), "dd", ("one", ("d", "e"))), False), (("kind", (), "dd", ("one", ("d",))), True),
        ]:
            if goes:
                self.assert_refused(Gone, {"where": (), "name": change[2]}, led_reading, lines, [change], reading)
            else:
                self.assertEqual(led_reading(lines, [change], reading), reading)
        self.assertEqual(led_reading(lines, [("kind", (), "dd", NUMBER)], read(lines, ["c"])), read(lines, ["c"]))
        self.assertEqual(led_reading(lines, [("kind", (), "aa", TEXT)], read(lines, [])), read(lines, []))

    def test_93_defaults(self):
        options = [flag("aa"), flag("bb", default=1), count("cc"), count("dd", default=2), one("ee", NAME),
                   one("ff", NAME, default="x")]
        told = Grammar(command("a", options))
        nothing = read(told, [])
        for change, row in [
            (("default", (), "aa", 1), (("aa", 0),)), (("default", (), "bb", 0), (("bb", 1),)),
            (("default", (), "dd", 3), (("dd", 2),)), (("default", (), "ff", "y"), (("ff", "x"),)),
            (("default", (), "ff", None), (("ff", "x"),)), (("default", (), "aa", 0), ()), (("default", (), "ff", "x"), ()),
            (("default", (), "ee", None), ()), (("default", (), "cc", 0), ()),
        ]:
            self.assert_same(led_reading(told, [change], nothing), ((), (row,), ()))
        for change in [("default", (), "cc", 1), ("default", (), "ee", "y")]:
            self.assert_refused(Gone, {"where": (), "name": change[2]}, led_reading, told, [change], nothing)
        tags = Grammar(command("a", [many("gg", NAME), many("hh", NAME, default=("x", "y"))]))
        self.assert_refused(Gone, {"where": (), "name": "gg"}, led_reading, tags, [("default", (), "gg", ("x",))], read(tags, []))
        self.assert_same(led_reading(tags, [("default", (), "hh", ())], read(tags, [])), ((), ((("hh", ("x", "y")),),), ()))
        standing = read(told, ["--aa", "--cc", "--ee=z", "--no-bb"])
        changes = [("default", (), "aa", 1), ("default", (), "cc", 5), ("default", (), "ee", "y"), ("default", (), "bb", 0)]
        self.assert_same(led_reading(told, changes, standing), standing)

    def test_93_defaults_in_the_order_of_the_options_and_of_changes(self):
        told = Grammar(command("a", [flag("aa"), flag("bb"), flag("cc")]))
        self.assert_same(led_reading(told, [("default", (), "bb", 1)], read(told, ["--cc", "--aa"])),
                         ((), ((("aa", 1), ("bb", 0), ("cc", 1)),), ()))
        changes = [("default", (), "bb", 1), ("default", (), "bb", 0)]
        self.assert_same(led_reading(told, changes, read(told, [])), ((), ((("bb", 0),),), ()))
        self.assert_refused(Gone, {"where": (), "name": "dd"}, led_reading, told,
                            [("rename", (), "bb", "dd"), ("default", (), "dd", 1), ("gone", (), "dd")], read(told, []))
        self.assert_same(led_reading(told, [("more", (), flag("dd", default=1)), ("default", (), "dd", 0)], read(told, [])),
                         ((), ((("dd", 1),),), ()))

    def test_93_what_comes_need_not_be_a_reading(self):
        told = Grammar(command("a", [flag("aa", default=1), flag("bb")], groups=[("most", ("aa", "bb"))]))
        changes = [("default", (), "aa", 0)]
        reading = led_reading(told, changes, read(told, ["--bb"]))
        self.assert_same(reading, ((), ((("aa", 1), ("bb", 1)),), ()))
        self.assert_refuses_found(NoReading, reading, led_reading, changed(told, changes), [], reading)
        self.assert_same(led_reading(told, changes, read(told, [])), ((), ((("aa", 1),),), ()))

    def test_93_two_lots_come_to_what_one_does(self):
        for number in range(9300, 9420):
            chance = random.Random(number)
            told = small_grammar(chance, made, number)
            words = led(chance, told.root(), 5, vocabulary(told.root()), Walk(told.root()), is_live)
            reading = tried_reading(told.root(), words)
            changes = fitting_changes(chance, told, 5)
            if reading is None:
                continue
            cut = chance.randint(0, len(changes))
            whole = outcome(lambda: led_reading(told, changes, reading))
            first = outcome(lambda: led_reading(told, changes[:cut], reading))
            if first[0] != "told":
                self.assertEqual(whole, first)
                continue
            second = outcome(lambda: led_reading(changed(told, changes[:cut]), changes[cut:], first[1]))
            if second[0] is not NoReading:
                self.assertEqual(whole, second)

    def test_93_refused(self):
        reading = read(GRAMMAR, ["list"])
        self.assert_refuses_found(NoGrammar, None, led_reading, None, None, None)
        self.assert_refuses_found(NoList, None, led_reading, GRAMMAR, None, None)
        self.assert_refuses_found(NoChange, None, led_reading, GRAMMAR, [None], None)
        self.assert_refused(NotThere, {"found": "nosuch"}, led_reading, GRAMMAR, [("gone", (), "nosuch")], None)
        for thing in [None, True, (), reading[:2], list(reading), (("put",), ((), ()), ()), read(TOOL, ["purge"])]:
            self.assert_refuses_found(NoReading, thing, led_reading, GRAMMAR, [("letter", (), "level", None)], thing)
        self.assertEqual(led_reading(grammar=GRAMMAR, changes=[], reading=reading), reading)


def fitting_changes(chance, told, most):
    """Changes made by chance, each of which fits behind those ahead."""
    changes = []
    for _ in range(most * 4):
        change = made_change(chance, told)
        try:
            told = changed(told, [change])
        except (NotThere, Unfit):
            continue
        changes.append(change)
        if len(changes) == most:
            break
    return changes


def outcome(ask):
    """What is told, or the refusal's class and fields."""
    try:
        return "told", ask()
    except (Gone, NoReading, NoWay, Wrong) as refusal:
        return type(refusal), vars(refusal)


class EditionsTests(Refusals):
    """Points 92 and 94."""

    def setUp(self):
        self.editions = Editions(GRAMMAR)
        self.editions.add([("rename", (), "level", "depth"), ("command", (), "put", "pack")])
        self.editions.add([("gone", ("pack",), "tag"), ("default", ("pack",), "size", 5)])
        self.editions.add([])

    def test_92_numbers_grammars_changes(self):
        self.assertEqual(len(self.editions), 4)
        self.assertEqual(len(Editions(grammar=GRAMMAR)), 1)
        self.assertEqual(self.editions.grammar(0), GRAMMAR)
        told = changed(GRAMMAR, [("rename", (), "level", "depth"), ("command", (), "put", "pack")])
        self.assertEqual(self.editions.grammar(number=1), told)
        self.assertEqual(self.editions.grammar(3), self.editions.grammar(2))
        self.assert_same(self.editions.changes(0), ())
        self.assert_same(self.editions.changes(number=1), (("rename", (), "level", "depth"), ("command", (), "put", "pack")))
        self.assert_same(self.editions.changes(3), ())
        for thing in [-1, 4, True, None, "0", [], (0,), 10 ** 29]:
            self.assert_refuses_found(NotThere, thing, self.editions.grammar, thing)
            self.assert_refuses_found(NotThere, thing, self.editions.changes, thing)
        for thing in [None, True, TOP, {}]:
            self.assert_refuses_found(NoGrammar, thing, Editions, thing)

    def test_92_what_is_refused_changes_nothing(self):
        before = [self.editions.grammar(number) for number in range(4)]
        for error, changes in [(NoList, None), (NoChange, [("letter", (), "depth", "x"), None]), (NotThere, [("gone", (), "level")]),
                               (Unfit, [("command", (), "pack", "list")])]:
            with self.assertRaises(error):
                self.editions.add(changes)
        self.assertEqual([self.editions.grammar(number) for number in range(4)], before)
        self.assertEqual(len(self.editions), 4)

    def test_92_lists_are_kept_as_copies(self):
        changes = [("letter", (), "depth", "x")]
        self.assertIsNone(self.editions.add(changes=changes))
        changes.clear()
        self.assertEqual(self.editions.changes(4), (("letter", (), "depth", "x"),))
        other = Editions(GRAMMAR)
        self.assertEqual((len(other), len(self.editions)), (1, 5))

    def test_94_same_and_mended(self):
        self.assert_same(self.editions.led(["list"], to=3), ("same", ["list"]))
        self.assert_same(self.editions.led(("-v", "list"), to=0), ("same", ["-v", "list"]))
        self.assert_same(self.editions.led(["-v", "put", "-l", "a"], to=1), ("mended", ["-v", "p", "-l", "a"]))
        self.assert_same(self.editions.led(["--level", "p", "a"], to=1), ("mended", ["-v", "p", "a"]))
        self.assert_same(self.editions.led(["-v", "p", "a"], to=1), ("same", ["-v", "p", "a"]))
        self.assert_same(self.editions.led(words=["pack", "-l", "a"], since=1, to=1), ("same", ["pack", "-l", "a"]))
        self.assert_same(self.editions.led(["pack", "a"], since=2, to=3), ("same", ["pack", "a"]))
        self.assert_same(self.editions.led(["pack", "a"], since=1, to=2), ("mended", ["p", "-s4", "a"]))

    def test_94_gone_and_no_way(self):
        editions = self.made([("command", (), "put", "pack")], [("gone", ("pack",), "loud")])
        self.assert_refused(Gone, {"where": ("pack",), "name": "loud"}, editions.led, ["put", "-l", "a"], to=2)
        self.assert_same(editions.led(["put", "-l", "a"], to=1), ("mended", ["p", "-l", "a"]))
        self.assert_refused(Gone, {"where": ("pack",), "name": "loud"}, editions.led, ["p", "-l", "a"], since=1, to=2)
        led_to = (("pack",), ((), (("loud", 1), ("size", 4))), (("what", "a"),))
        self.assert_no_way(led_to, self.editions, ["put", "-l", "a"], to=2)
        self.assert_no_way(led_to, self.editions, ["pack", "-l", "a"], since=1, to=3)
        editions = Editions(Grammar(command("a", [flag("bb", default=1), many("cc", TEXT), count("dd")],
                                            [("some", TEXT, "some")])))
        editions.add([("default", (), "bb", 0)])
        words = ["--cc=x"] * 6 + ["--dd"] * 4 + ["y"] * 30
        self.assertEqual(len(words), 40)
        reading = led_reading(editions.grammar(0), editions.changes(1), read(editions.grammar(0), words))
        self.assertEqual(len(shortest(editions.grammar(1), reading)), 41)
        self.assert_no_way(reading, editions, words, to=1)

    def assert_no_way(self, reading, editions, words, **numbers):
        """Refused with NoWay of what is led over."""
        with self.assertRaises(NoWay) as caught:
            editions.led(words, **numbers)
        self.assert_same(caught.exception.found, reading)

    def made(self, *lots):
        """Editions of lots of changes."""
        editions = Editions(GRAMMAR)
        for changes in lots:
            editions.add(changes)
        return editions

    def test_94_refused(self):
        editions = self.editions
        for thing in [-1, 4, True, None, "0", []]:
            self.assert_refuses_found(NotThere, thing, editions.led, None, since=thing, to=None)
            self.assert_refuses_found(NotThere, thing, editions.led, None, to=thing)
            self.assert_refuses_found(NotThere, thing, editions.beginnings, None, since=thing, to=None)
            self.assert_refuses_found(NotThere, thing, editions.beginnings, None, to=thing)
        self.assert_refused(NotThere, {"found": 1}, editions.led, None, since=2, to=1)
        self.assert_refused(NotThere, {"found": 1}, editions.beginnings, None, since=2, to=1)
        for thing in [None, True, "a", ["a"] * 41, [5]]:
            self.assert_refuses_found(NoList, thing, editions.led, thing, to=1)
        with self.assertRaises(Wrong) as caught:
            editions.led(["pack", "a"], to=1)
        self.assertEqual((caught.exception.at, caught.exception.sign), (0, 1))
        for thing in [None, "put", ["put"], ("pack",), ("put", "put")]:
            self.assert_refuses_found(NotThere, thing, editions.beginnings, thing, to=1)

    def test_94_told_anew(self):
        words = ["list"]
        self.editions.led(words, to=1)[1].append("x")
        self.assertEqual(words, ["list"])
        self.editions.beginnings((), to=1)[0].append("x")
        self.assertEqual(self.editions.beginnings((), to=0), ([], [], []))


class DeepTests(Refusals):
    """Paths of three levels."""

    def setUp(self):
        leaves = [command("cut", [flag("on", "o")], [("at", NAME, "one")]), command("cup", [flag("on")])]
        self.grammar = Grammar(command("t", [flag("on")], commands=[command("ab", [flag("on"), flag("up")], commands=leaves),
                                                                    command("ac", commands=[command("cut")])]))

    def test_93_led_over_names_of_each_level(self):
        reading = read(self.grammar, ["--on", "ab", "--on", "cut", "--on", "x"])
        changes = [("command", (), "ab", "xy"), ("command", ("xy",), "cut", "cot"), ("rename", ("xy", "cot"), "on", "go"),
                   ("rename", ("xy",), "on", "off"), ("rename", ("xy", "cot"), "at", "to"), ("command", ("ac",), "cut", "cat"),
                   ("command", (), "ac", "ab"), ("default", ("xy",), "up", 1)]
        self.assert_same(led_reading(self.grammar, changes, reading), (
            ("xy", "cot"), ((("on", 1),), (("off", 1), ("up", 0)), (("go", 1),)), (("to", "x"),)))
        call = call_line(self.grammar, "--on ab --on cut --on x")
        self.assertIs(same_call(call, call_line(changed(self.grammar, changes), "--on xy --off --no-up cot --go x"), self.grammar,
                                changes), True)
        self.assert_refused(Gone, {"where": ("xy", "cut"), "name": "on"}, led_reading, self.grammar,
                            [("command", (), "ab", "xy"), ("gone", ("xy", "cut"), "on")], reading)
        self.assert_same(led_reading(self.grammar, [("command", (), "ac", "ad"), ("gone", ("ab", "cup"), "on")], reading), reading)

    def test_96_beginnings_of_each_level(self):
        editions = Editions(self.grammar)
        editions.add([("command", (), "ab", "xy"), ("command", ("xy",), "cut", "cot"), ("rename", ("xy", "cot"), "on", "go")])
        self.assert_same(editions.beginnings((), to=1)[0], [("ab", "xy", None)])
        self.assert_same(editions.beginnings(("ab",), to=1), ([("cut", "cot", None)], [], []))
        gone = [("o", "go", None), ("on", "go", None)]
        self.assert_same(editions.beginnings(("ab", "cut"), to=1), ([], gone, gone))
        self.assert_same(editions.beginnings(("ac",), to=1), ([], [], []))

    def test_94_forty_words_mended(self):
        told = Grammar(command("t", [flag("bb", default=1), many("cc", TEXT), count("dd")], [("some", TEXT, "some")]))
        editions = Editions(told)
        editions.add([("default", (), "bb", 0)])
        words = ["--cc=x"] * 6 + ["--dd"] * 3 + ["y"] * 30
        self.assertEqual((editions.led(words, to=1)[0], len(editions.led(words, to=1)[1])), ("mended", 40))


class MeaningTests(Refusals):
    """Points 94 and 95: what words led on mean."""

    def test_95_led_words_are_called_the_same(self):
        seen = {"same": 0, "mended": 0}
        for number in range(9500, 9800):
            chance = random.Random(number)
            told = small_grammar(chance, made, number)
            editions = Editions(told)
            for _ in range(3):
                editions.add(fitting_changes(chance, editions.grammar(len(editions) - 1), chance.randint(1, 3)))
            since, to = chance.choice([(0, 1), (0, 2), (1, 3), (1, 2), (2, 3), (0, 3), (2, 2)])
            elder, newer = editions.grammar(since), editions.grammar(to)
            words = led(chance, elder.root(), 5, vocabulary(elder.root()), Walk(elder.root()), is_live)
            if tried_reading(elder.root(), words) is None:
                continue
            changes = [change for at in range(since + 1, to + 1) for change in editions.changes(at)]
            try:
                how, found = editions.led(words, since=since, to=to)
                call = called(elder, read(elder, words))
                beside = called(newer, read(newer, found))
            except (Gone, NoWay, Lacks):
                continue
            seen[how] += 1
            path, worths, places = call_led(call, elder, changes, changed)
            self.assertEqual((beside.path(), beside.places()), (path, places))
            self.assertEqual({(where, name): worth for where, name, worth in beside.worths()}, worths)
            self.assertIs(same_call(call, beside, elder, changes), True)
            same = reads(newer, words) and read(newer, words) == read(newer, found)
            self.assertEqual(how == "same", same)
            if how == "mended":
                self.assertEqual(found, shortest(newer, read(newer, found)))
        self.assertTrue(min(seen.values()) > 10, seen)

    def test_95_same_call(self):
        changes = [("command", (), "put", "pack"), ("rename", ("pack",), "size", "len"), ("gone", (), "level"),
                   ("more", ("pack",), flag("dry", default=1)), ("rename", ("pack",), "what", "it")]
        newer = changed(GRAMMAR, changes)
        call = call_line(GRAMMAR, "put a b")
        for line, same in [("pack a b", True), ("pack a", False), ("pack --dry a b", True), ("pack --no-dry a b", False),
                           ("pack -l a b", False), ("list", False), ("pack a c", False)]:
            self.assertIs(same_call(call, call_line(newer, line), GRAMMAR, changes), same)
        self.assertIs(same_call(call_line(GRAMMAR, "-v put a b"), call_line(newer, "pack a b"), GRAMMAR, changes), True)
        self.assertIs(same_call(call, call, GRAMMAR, []), True)
        self.assertIs(same_call(call, call, GRAMMAR, changes), False)
        self.assertIs(same_call(one=call_line(TOOL, "put a"), other=call, grammar=GRAMMAR, changes=[]), False)
        self.assertIs(same_call(call, call_line(GRAMMAR, "put a b", book={(("put",), "size"): ("4",)}), GRAMMAR, []), True)

    def test_95_defaults_that_came_and_changed(self):
        changes = [("more", (), count("more", "m", 3)), ("default", (), "more", 5), ("rename", (), "more", "most")]
        newer = changed(GRAMMAR, changes)
        call = call_line(GRAMMAR, "list")
        self.assertIs(same_call(call, call_line(newer, "-mmm list"), GRAMMAR, changes), True)
        self.assertIs(same_call(call, call_line(newer, "list"), GRAMMAR, changes), False)
        editions = Editions(GRAMMAR)
        editions.add(changes)
        self.assertEqual(editions.led(["list"], to=1), ("mended", ["-mmm", "l"]))

    def test_95_kinds_that_come_play_no_part(self):
        root = command("t", [one("aa", NUMBER), many("bb", NAME), count("cc"), flag("dd")], [("ee", NAME, "maybe"), ("ff", NAME, "rest")])
        told = Grammar(root, own=OWN)
        call, beside, short = [call_line(told, line) for line in ("--aa=5 --bb=x --cc e f", "--aa=4 --bb=x --cc e f", "--aa=5 --bb=x --cc e")]
        kinds = {"aa": [("number", 6, 9), NAME, SIZE], "bb": [NUMBER, ("one", ("y",)), SIZE], "ee": [NUMBER, SIZE], "ff": [NUMBER, SIZE]}
        for name, several in kinds.items():
            for kind in several:
                changes = [("kind", (), name, kind)]
                self.assertIs(same_call(call, call, told, changes), True)
                self.assertIs(same_call(call, beside, told, changes), False)
                self.assertIs(same_call(call, short, told, changes), False)
                renamed = call_line(changed(told, [("rename", (), name, "zz")]), "--aa=5 --bb=x --cc e f".replace(name, "zz"))
                for changes in ([("rename", (), name, "zz"), ("kind", (), "zz", kind)], [("kind", (), name, kind), ("rename", (), name, "zz")]):
                    self.assertIs(same_call(call, renamed, told, changes), True)
                    self.assertIs(same_call(call, call, told, changes), False)
        nothing = call_line(told, "")
        self.assertIs(same_call(nothing, nothing, told, [("kind", (), "aa", SIZE), ("default", (), "aa", "big")]), True)
        self.assertIs(same_call(nothing, call_line(changed(told, [("default", (), "aa", 5)]), ""), told, [("default", (), "aa", 5)]), False)
        came = [("more", (), one("gg", NUMBER, default=7)), ("default", (), "gg", None), ("kind", (), "gg", NAME)]
        self.assertIs(same_call(call, call_line(changed(told, came[:1]), "--aa=5 --bb=x --cc e f"), told, came), True)
        self.assertIs(same_call(call, call_line(changed(told, came[:2]), "--aa=5 --bb=x --cc e f"), told, came), False)

    def test_95_kinds_among_other_changes(self):
        seen = [0, 0]
        for number in range(9850, 10150):
            chance = random.Random(number)
            told = small_grammar(chance, made, number)
            changes = fitting_changes(chance, told, 6)
            kept = [change for change in changes if change[0] != "kind"]
            words = led(chance, told.root(), 5, vocabulary(told.root()), Walk(told.root()), is_live)
            if kept == changes or tried_reading(told.root(), words) is None:
                continue
            try:
                newer, editions = changed(told, kept), Editions(told)
                editions.add(kept)
                call = called(told, read(told, words))
                beside = called(newer, read(newer, editions.led(words, to=1)[1]))
            except (NotThere, Unfit, Gone, NoWay, Lacks):
                continue
            self.assertIs(same_call(call, beside, told, changes), True)
            for other in (call, beside):
                same = same_call(call, other, told, kept)
                self.assertIs(same_call(call, other, told, changes), same)
                seen[same] += 1
        self.assertTrue(min(seen) > 10, seen)

    def test_95_nothing_else_of_the_grammars_counts(self):
        root = command("t", [one("aa", NUMBER), many("bb", NAME), count("cc"), flag("dd")], [("ee", NAME, "maybe"), ("ff", NAME, "rest")])
        told = Grammar(root)
        call, nothing = call_line(told, "--aa=5 --bb=x --cc e f"), call_line(told, "")
        for other in [
            Grammar(command("u", root[1], root[2])), Grammar(command("t", root[1], root[2], [("just", ("cc", "dd"))])),
            Grammar(command("t", [one("aa", NUMBER, need=True)] + list(root[1][1:]), root[2])), Grammar(command("t")), GRAMMAR,
        ]:
            for same in (call, nothing):
                self.assertIs(same_call(same, same, other, []), True)
            self.assertIs(same_call(call, nothing, other, []), False)

    def test_95_paths_alone(self):
        told = Grammar(command("t", commands=[command("aa"), command("bb")]))
        one_call, other = call_line(told, "aa"), call_line(told, "bb")
        self.assertIs(same_call(one_call, one_call, told, []), True)
        self.assertIs(same_call(one_call, other, told, []), False)
        changes = [("command", (), "bb", "cc"), ("command", (), "aa", "bb")]
        self.assertIs(same_call(one_call, other, told, changes), True)
        self.assertIs(same_call(one_call, one_call, told, changes), False)
        self.assertIs(same_call(other, other, told, changes), False)

    def test_95_each_option_and_place_in_its_order(self):
        rows = [flag("aa", default=1), count("bb", default=1)], [("ee", NAME, "maybe"), ("ff", NAME, "maybe")]
        told = Grammar(command("t", *rows))
        for options, places, same in [
            (rows[0], rows[1], True), (rows[0][::-1], rows[1], False), (rows[0], rows[1][::-1], False), (rows[0][:1], rows[1], False),
            (rows[0], rows[1][:1], False), (rows[0] + [flag("cc")], rows[1], False), (rows[0], rows[1] + [("gg", NAME, "maybe")], False),
            ([flag("aa", default=1), flag("bb", default=1)], rows[1], True), ([flag("aa"), count("bb", default=1)], rows[1], False),
        ]:
            self.assertIs(same_call(call_line(told, ""), call_line(Grammar(command("t", options, places)), ""), told, []), same)
        deep = Grammar(command("t", [flag("aa")], commands=[command("go", [flag("bb")]), command("to")]))
        for path, place in [((), 1), (("go",), 3)]:
            changes = [("more", path, flag("cc", default=1)), ("command", (), "go", "run"), ("more", (), flag("dd"))]
            other = call_line(changed(deep, changes), "run")
            self.assertEqual([name for _, name, _ in other.worths()].index("cc"), place)
            self.assertIs(same_call(call_line(deep, "go"), other, deep, changes), True)
            self.assertIs(same_call(call_line(deep, "go"), call_line(changed(deep, changes[:2]), "run"), deep, changes), False)

    def test_95_refused(self):
        call = call_line(GRAMMAR, "list")
        for thing in [None, True, GRAMMAR, "list", {}]:
            self.assert_refuses_found(NoCall, thing, same_call, thing, None, None, None)
            self.assert_refuses_found(NoCall, thing, same_call, call, thing, None, None)
        self.assert_refuses_found(NoGrammar, None, same_call, call, call, None, None)
        self.assert_refuses_found(NoList, None, same_call, call, call, GRAMMAR, None)
        self.assert_refuses_found(NoChange, None, same_call, call, call, GRAMMAR, [None])


class BeginningsTests(Refusals):
    """Point 96."""

    def test_96_renamed_gone_and_come(self):
        told = Grammar(command("t", [flag("loud"), flag("level"), count("size"), flag("on")],
                               commands=[command("put"), command("pull"), command("list")]))
        editions = Editions(told)
        editions.add([("rename", (), "size", "scale"), ("gone", (), "level"), ("more", (), flag("one")),
                      ("command", (), "put", "place"), ("command", (), "list", "show")])
        self.assert_same(editions.beginnings((), since=0, to=1), (
            [("l", "show", None), ("li", "show", None), ("lis", "show", None), ("list", "show", None), ("put", "place", None)],
            [("le", "level", None), ("lev", "level", None), ("leve", "level", None), ("level", "level", None),
             ("o", "on", None), ("si", "scale", None), ("siz", "scale", None), ("size", "scale", None)],
            [("le", "level", None), ("lev", "level", None), ("leve", "level", None), ("level", "level", None),
             ("o", "on", None)],
        ))
        self.assert_same(editions.beginnings(("put",), to=1), ([], [], []))
        self.assert_same(editions.beginnings(path=(), since=1, to=1), ([], [], []))

    def test_96_a_name_gone_and_come_again_is_gone(self):
        told = Grammar(command("t", [flag("aa"), flag("ab")]))
        editions = Editions(told)
        editions.add([("gone", (), "aa"), ("more", (), flag("aa"))])
        self.assert_same(editions.beginnings((), to=1)[1], [("aa", "aa", "aa")])
        editions.add([("rename", (), "aa", "ac"), ("rename", (), "ab", "aa")])
        self.assert_same(editions.beginnings((), since=1, to=2)[1], [("aa", "ac", "aa"), ("ab", "aa", None)])
        self.assert_same(editions.beginnings((), to=2)[1], [("aa", "aa", "aa"), ("ab", "aa", None)])

    def test_96_against_words_tried(self):
        for number in range(9600, 9680):
            chance = random.Random(number)
            told = small_grammar(chance, made, number)
            editions = Editions(told)
            changes = fitting_changes(chance, told, 3)
            editions.add(changes)
            for path in told.paths():
                where, names = tracked(told, path, changes)
                found = editions.beginnings(path, to=1)
                for words, rows in zip((command_words, option_words, flag_words), found):
                    wants = []
                    for text, name in words(told, path).items():
                        new, now = names[words == command_words, name], words(editions.grammar(1), where).get(text)
                        if new is None or new != now:
                            wants.append((text, new or name, now))
                    self.assert_same(rows, sorted(wants))


def tracked(told, path, changes):
    """Where a path is behind changes, and what its commands and options are called: a dict from (is one, name)."""
    names = {(True, below[0]): below[0] for below in told.command(path)[4]}
    names.update({(False, option[0]): option[0] for option in told.command(path)[1]})
    for change in changes:
        for key, name in list(names.items()):
            if change[1] == path and change[2] == name and key[0] == (change[0] == "command"):
                names[key] = None if change[0] == "gone" else change[3] if change[0] in ("rename", "command") else name
        if change[0] == "command" and path[:len(change[1]) + 1] == change[1] + (change[2],):
            path = change[1] + (change[3],) + path[len(change[1]) + 1:]
    return path, names


if __name__ == "__main__":
    unittest.main()
