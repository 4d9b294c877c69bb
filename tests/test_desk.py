"""Points 123 and 124: a desk."""

import random
import unittest

from callwords.completing import going_on, meant
from callwords.desk import Desk
from callwords.editions import Editions
from callwords.errors import BadSign, CallError, Gone, Lacks, Missing, Barred, NoChange, NoGrammar, NoLine, NoList, NoNumber, NoRow
from callwords.errors import NotThere, NoWay, Reads, TooMany, Unfit, Unread, Wrong
from callwords.grammars import Grammar
from callwords.helping import page, usage, usage_text
from callwords.layers import call_line
from callwords.lines import cut, joined
from callwords.texts import grammar_text, read_grammar
from callwords.writing import plain_words, safe_line
from samples import COLOR, NAME, NUMBER, TEXT, command, count, flag, made, many, one
from things import ANY_THINGS, Refusals

ROOT = command("tool", [flag("loud", "l", source="noise"), one("size", NUMBER, "s", 4, source="size")], commands=[
    command("put", [many("tag", TEXT, "t"), one("color", COLOR, "c")], [("what", NAME, "one"), ("where", TEXT, "maybe"),
                                                                      ("more", ("text", 20), "rest")]),
    command("list", [one("by", NAME, need=True, source="who"), count("level", "v")]),
])
TOLD = grammar_text(Grammar(ROOT)).replace("\n", ";")


def desk(*rows):
    """A desk that has the grammar and was told rows."""
    told = Desk()
    for row in ("grammar " + TOLD,) + rows:
        if told.say(row) != "ok":
            raise AssertionError(row)
    return told


class SettingTests(Refusals):
    """What sets."""

    def test_123_grammar(self):
        told = Desk()
        self.assert_same(told.say("grammar name a;command;option aa flag"), "ok")
        self.assert_same(told.say(row="text"), "name a;command;option aa flag default 0")
        self.assertEqual(told.say("grammar  name b ;; command;"), "ok")
        self.assertEqual(told.say("text"), "name b;command")
        self.assertEqual(desk().say("text"), TOLD)

    def test_123_room_and_book(self):
        told = desk()
        self.assertEqual(told.say("call put a"), "/put; / loud=no default; / size=4 default; /put tag= default; /put color none; what=a; "
                                                 "where; more=")
        for row in ("room noise yes", "room size 7", "book put tag = 'a b' ''", "book # size = 5", "book", "book  ", "book size = 3"):
            self.assert_same(told.say(row), "ok")
        self.assertEqual(told.say("call put a"), "/put; / loud=yes room; / size=7 room; /put tag=a\\ b '' book; /put color none; what=a; "
                                                 "where; more=")
        for row in ("room size", "room nosuch", "room noise no", "book put color = red", "book put tag ="):
            self.assert_same(told.say(row), "ok")
        self.assertEqual(told.say("call put a"), "/put; / loud=no room; / size=3 book; /put tag= book; /put color=red book; what=a; where; "
                                                 "more=")
        self.assertEqual(told.say("room noise "), "ok")
        self.assert_refused(Unread, {"layer": "room", "name": "loud", "found": ""}, told.say, "call put a")

    def test_123_room_and_book_ahead_of_a_grammar_and_behind_another_one(self):
        told = Desk()
        for row in ("room size 9", "book put color = red", "grammar " + TOLD, "grammar " + TOLD):
            self.assertEqual(told.say(row), "ok")
        self.assertEqual(told.say("call put a").split("; ")[2:5], ["/ size=9 room", "/put tag= default", "/put color=red book"])
        told.say("grammar name a;command")
        with self.assertRaises(NotThere) as caught:
            told.say("call ")
        self.assertEqual(caught.exception.found, (("put",), "color"))

    def test_123_each_change(self):
        for row, part in [
            ("rename / loud noisy", "option noisy flag -l room noise default 0"), ("rename /put what it", "place it one name"),
            ("command / put set", "command set"), ("letter / loud x", "option loud flag -x room noise default 0"),
            ("letter / loud -", "option loud flag room noise default 0"), ("default / loud 1", "option loud flag -l room noise default 1"),
            ("default / size 12", "option size one -s number -3 12 room size default 12"),
            ("default / size", "option size one -s number -3 12 room size"), ("default /put tag", "option tag many -t text 5"),
            ("default /put tag 'a b' \"\" c", "option tag many -t text 5 default a\\ b '' c"),
            ("default /list level 9", "option level count -v default 9"), ("default /put color red", "default red"),
            ("more / dry flag", "option dry flag default 0"), ("more /put dry one -d one a|b room r default b",
                                                             "option dry one -d one a|b room r default b"),
            ("more / dry many text 3 default", "option dry many text 3"), ("kind / size number 0 5", "option size one -s number 0 5 room size"),
            ("kind /put where name", "place where maybe name"), ("kind /put color one red|blue", "option color one -c one red|blue"),
            ("  kind   '/put'  wh\\ere   text   20 ", "place where maybe text 20"),
        ]:
            told = desk()
            self.assert_same(told.say("change " + row), "ok")
            self.assertIn(part, told.say("text"), row)
        told = desk()
        told.say("change gone / size")
        self.assertNotIn("size", told.say("text"))

    def test_123_changes_one_by_one_and_another_edition(self):
        told = desk()
        self.assertEqual(told.say("change command / put set; rename /set what it;letter / loud -;default / loud 1"), "ok")
        self.assertEqual(told.say("led put a"), "mended --no-l s a")
        self.assertEqual(told.say("change gone /set tag"), "ok")
        self.assertEqual(told.say("led set a"), "same set a")
        self.assertEqual(told.say("led --no-l s 'a' \"b c\""), "same --no-l s a b\\ c")
        self.assert_refused(Gone, {"where": ("set",), "name": "tag"}, told.say, "led set -tx a")
        told.say("grammar " + TOLD)
        self.assert_refused(NotThere, {"found": -1}, told.say, "led put a")

    def test_123_eight_changes_and_nine(self):
        eight = ";".join("letter / loud " + letter for letter in "abcdefgh")
        told = desk()
        self.assertEqual(told.say("change " + eight), "ok")
        with self.assertRaises(NoList) as caught:
            told.say("change " + eight + ";letter / loud i")
        self.assertEqual(caught.exception.found, [("letter", (), "loud", letter) for letter in "abcdefghi"])
        with self.assertRaises(NotThere) as caught:
            told.say("change " + eight + ";gone / nosuch")
        self.assertEqual(caught.exception.found, "nosuch")
        self.assertIn("-h room noise", told.say("text"))


class AskingTests(Refusals):
    """What asks."""

    def test_123_each_answer(self):
        told = desk("room size 7", "change rename / loud noisy;gone /list by")
        for row, answer in [
            ("read --no p -ta -cred b", "--noisy put --tag=a --color=red b"), ("read l -vvv", "list --level --level --level"),
            ("read put a -- -x", "put -- a -x"), ("read put a 'b c' ''", "put a b\\ c ''"), ("read -l list", "--noisy list"),
            ("call -l put -t 'a b' -tc d e", "/put; / noisy=yes line; / size=7 room; /put tag=a\\ b c line; /put color none; what=d; "
                                             "where=e; more="),
            ("call l -vv", "/list; / noisy=no default; / size=7 room; /list level=2 line"),
            ("write put a", "-s7 p a"), ("write --no-noisy --size=4 put a b", "p a b"),             ("more pu", "put"), ("more put ", "--tag -t --color -c --"), ("more put -c ", "red green grey"),
            ("more put 'a' b -cg", "-cgreen -cgrey"), ("more x", ""), ("more", "--noisy -l --no-noisy --size -s -- put list"),
            ("more put --color='g", "--color=green --color=grey"), ("meant pot a", "0 put"), ("meant", "0"), ("meant put", "1"),
            ("meant put --colr a", "1 --color"), ("meant wxyz", "0"),
            ("led l", "same l"), ("usage /put", "> put [-t, --tag=text..] [-c, --color=red|green|grey] what [where] [more..]"),
            ("usage /", "> [-l, --noisy] [-s, --size=-3-12] COMMAND"),
            ("help 100 /list", "> list [-v, --level..];level: at most 9; default 0"),
            ("help 24 /list", "> list [-v, --level..];level: at most 9; ;    default 0"),
        ]:
            self.assert_same(told.say(row), answer)

    def test_123_answers_as_the_stages_tell(self):
        for number in range(12300, 12340):
            root = made(number, kinds=[NAME, COLOR, ("text", 3), ("number", 0, 5)])
            grammar, told, chance = Grammar(root), Desk(), random.Random(number)
            told.say("grammar " + grammar_text(grammar).replace("\n", ";"))
            for path in grammar.paths():
                text = "/" + "/".join(path)
                self.assertEqual(told.say("usage " + text), ";".join(usage_text(grammar, path, row) for row in usage(grammar, path)))
                self.assertEqual(told.say("help 40 " + text), ";".join(page(grammar, path, width=40)))
            line = ""
            for _ in range(5):
                found = going_on(grammar, line)
                self.assertEqual(told.say("more " + line), joined([word for word, _ in found]))
                for word, ask in [("read", lambda: joined(plain_words(grammar, cut(line)))),
                                  ("write", lambda: joined(safe_line(grammar, call_line(grammar, line)))),
                                  ("meant", lambda: meant_text(*meant(grammar, cut(line))))]:
                    self.assertEqual(outcome(lambda: told.say(word + " " + line)), outcome(ask))
                if not found:
                    break
                line += chance.choice(found)[1]


def meant_text(at, words):
    """A number and words."""
    return str(at) + (" " + joined(words) if words else "")


def outcome(ask):
    """What is told, or the refusal's class and fields."""
    try:
        return ask()
    except (CallError, Missing, Barred) as refusal:
        return type(refusal), vars(refusal)


class RefusedTests(Refusals):
    """Point 124."""

    def test_124_no_line(self):
        for told in (Desk(), desk()):
            for thing in [thing for thing in ANY_THINGS if thing != "text"] + [
                "text ", " text", "text x", "Text", "grammars", "room", "room ", "room  a", "room A b", "room abcdefghi x", "help", "help 60",
                "help 60 ", "help / 60", "help 60  /", "help x /", "help 060 /", "help 60 put", "help 60 /put/", "help 60 //", "help 60 /A",
                "help 60 / ", "usage", "usage ", "usage put", "usage /put /", "usage  /", "usage //put", "read\n", "read a\nb", "\tread",
                "read " + "a" * 2001, "room a " + "b" * 2001, "reads a", "undo", "", " ",
            ]:
                self.assert_refuses_found(NoLine, thing, told.say, thing)

    def test_124_no_grammar(self):
        told = Desk()
        for row in ["change", "change x", "read '", "read", "call", "write", "more", "meant x", "led", "text", "help 5 /", "usage /nosuch"]:
            self.assert_refused(NoGrammar, {"found": None}, told.say, row)

    def test_124_a_changes_text_when_it_comes(self):
        told = desk()
        for text in [
            "", " ", "x", "rename", "rename /", "rename / loud", "rename / loud noisy x", "rename loud noisy", "rename / loud Noisy",
            "rename / Loud noisy", "rename // loud noisy", "command / put", "command / put set x", "letter / loud", "letter / loud ab",
            "letter / loud --", "gone /", "gone / loud x", "gone loud", "default /", "default / loud", "default / loud x", "default / loud 0 0",
            "default / size x", "default / size 13", "default / size 1 2", "default /put tag toolong", "default /put color blue",
            "more /", "more / dry", "more / dry flags", "more dry flag", "more / d flag", "more / dry flag default", "kind / size",
            "kind / size names", "kind / size name x", "kind / size number 1", "Rename / loud noisy", "place / loud noisy", "# x",
        ]:
            for ahead in ("", "letter / loud x;", "gone /list by; letter / loud x ;"):
                for behind in ("", ";", ";gone / nosuch"):
                    row = "change " + ahead + text + behind
                    self.assert_refuses_found(NoLine, row, told.say, row)
        self.assertEqual(told.say("text"), TOLD)
        for row in ("change", "change ", "change  ", "change ;", "change ; ;", "change letter / loud x;", "change letter / loud x; ;x",
                    "change  letter  /loud x"):
            self.assert_refuses_found(NoLine, row, told.say, row)
        self.assertEqual(told.say("text"), TOLD)

    def test_124_a_changes_text_longer_than_a_line(self):
        told, ahead = desk(), "change letter / loud x;"
        for row in ("change " + "x" * 2001, ahead + "gone / loud" + " " * 2000, ahead + "x" * 2001 + ";'"):
            self.assert_refuses_found(NoLine, row, told.say, row)
        self.assertEqual(told.say("text"), TOLD)
        self.assert_refused(TooMany, {"many": 1000}, told.say, ahead + "x " * 1000)
        self.assertEqual(told.say("change gone / loud" + " " * 1989), "ok")

    def test_124_changes_refused_in_their_order(self):
        told = desk()
        for row, error, fields in [
            ("letter / loud x;gone / nosuch;x", NotThere, {"found": "nosuch"}), ("gone /no such;x", NotThere, {"found": ("no",)}),
            ("default /no such x", NotThere, {"found": ("no",)}), ("default / nosuch x", NotThere, {"found": "nosuch"}),
            ("default /put what a", NotThere, {"found": "what"}), ("letter / loud s;x", Unfit, {"where": (), "why": "twice", "found": "s"}),
            ("default / loud 2", Unfit, {"where": (), "why": "default", "found": "loud"}),
            ("default /put tag a b c d e f g", Unfit, {"where": ("put",), "why": "default", "found": "tag"}),
            ("kind / size own x", Unfit, {"where": (), "why": "own", "found": "x"}), ("gone / 'loud", BadSign, {"at": 7}),
            ("gone / loud; gone / \\", BadSign, {"at": 8}), ("gone" + " a" * 40, TooMany, {"many": 41}),
        ]:
            with self.assertRaises(error) as caught:
                told.say("change " + row)
            self.assertEqual(vars(caught.exception), fields)
        with self.assertRaises(NoChange) as caught:
            told.say("change more / dry one name need;x")
        self.assertEqual(caught.exception.found, ("more", (), one("dry", NAME, need=True)))
        self.assertEqual(told.say("text"), TOLD)

    def test_124_as_the_stages_refuse(self):
        told = desk("change letter / loud x")
        for row, error, fields in [
            ("read 'a", BadSign, {"at": 0}), ("call \\", BadSign, {"at": 0}), ("more " + "a " * 40 + "a", TooMany, {"many": 41}),
            ("read a" + " a" * 40, TooMany, {"many": 41}), ("call list", Lacks, {"name": "by"}), ("write list", Lacks, {"name": "by"}),
            ("help 23 /", NoNumber, {"found": 23}), ("help -5 /", NoNumber, {"found": -5}), ("help 60 /no", NotThere, {"found": ("no",)}),
            ("usage /put/x", NotThere, {"found": ("put", "x")}), ("meant put a", Reads, {"found": ["put", "a"]}),
            ("grammar", NoRow, {"at": 1}), ("grammar name a;command;x", NoRow, {"at": 2}), ("book a b", NoRow, {"at": 0}),
            ("grammar name a;command;option aa one own x", Unfit, {"where": (), "why": "own", "found": "x"}),
            ("led 'a", BadSign, {"at": 0}),
        ]:
            with self.assertRaises(error) as caught:
                told.say(row)
            self.assertEqual(vars(caught.exception), fields)
        self.assertEqual(told.say("led -l put a"), "mended -x p a")
        for row, at in [("read put", 1), ("call pot", 0), ("write --loud put -x", 2), ("led -x put a", 0)]:
            with self.assertRaises(Wrong) as caught:
                told.say(row)
            self.assertEqual(caught.exception.at, at)
        counts = Desk()
        counts.say("grammar name a;command;" + ";".join("option " + letter * 2 + " count -" + letter for letter in "abcdef"))
        with self.assertRaises(NoList):
            counts.say("read -aaaaaaaaabbbbbbbbbcccccccccddddddddd -eeeeeeeee")
        self.assert_refused(NotThere, {"found": -1}, counts.say, "led nosuch")

    def test_124_no_way(self):
        told = desk("change default / loud 1;default / loud 0")
        self.assertEqual(told.say("led put a"), "mended --no-l p a")
        shut = Desk()
        shut.say("grammar name a;command;option aa flag;option bb flag default 1;group most aa bb")
        shut.say("change default / bb 0")
        self.assertRaises(NoWay, shut.say, "led --aa")
        self.assertEqual(shut.say("led"), "mended --b")

    def test_124_what_is_refused_changes_nothing_and_desks_have_nothing_in_common(self):
        rows = ["room noise yes", "room size x", "room size 5", "room size", "book size = 3", "book put tag = a", "book x", "grammar " + TOLD,
                "grammar x", "change letter / loud x", "change letter / loud s", "change gone / loud;x", "change rename / size len;gone / len",
                "change command / put set", "room A", "read put a", "call put a", "more ", "text", "led put a", "led set a", "nosuch", None,
                "help 60 /", "grammar name b;command", "usage /", "change more / dry flag -d", "default / dry 1", "write set a"]
        for number in range(12400, 12440):
            chance, one_desk, told = random.Random(number), Desk(), []
            for _ in range(25):
                row = chance.choice(rows)
                fresh = Desk()
                for setting in told:
                    fresh.say(setting)
                found = outcome(lambda: one_desk.say(row))
                self.assertEqual(found, outcome(lambda: fresh.say(row)))
                if found == "ok":
                    told.append(row)

    def test_123_editions_as_the_stages_tell(self):
        told = desk("change letter / loud x", "change rename / size len;gone /put tag")
        editions = Editions(read_grammar(TOLD.replace(";", "\n")))
        editions.add([("letter", (), "loud", "x")])
        editions.add([("rename", (), "size", "len"), ("gone", ("put",), "tag")])
        for line in ["put a", "-s5 put a", "--size=5 -x put a b", "list --by=a", "p -cred a"]:
            how, words = editions.led(cut(line), since=1, to=2)
            self.assertEqual(told.say("led " + line), how + " " + joined(words))


if __name__ == "__main__":
    unittest.main()
