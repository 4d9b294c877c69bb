"""Points 51 to 56: books, rooms, and Calls of which each worth has its layer."""

import itertools
import random
import unittest

from callwords import layers
from callwords.errors import BadSign, Lacks, NoBook, NoCall, NoGrammar, NoLine, NoReading, NoRoom, NoRow, NoText
from callwords.errors import NotThere, TooMany, Unread, Wrong
from callwords.grammars import Grammar
from callwords.layers import Call, book_text, call_line, called, differing, layers_of, read_book
from callwords.reading import read
from samples import COLOR, NAME, NONE, NUMBER, ODD, OWN, ROOTS, SIZE, SMALL_KINDS, TEXT
from samples import command, count, flag, grammar, led, made, many, one
from things import ANY_THINGS, Refusals, anew
from trying import Walk, is_live, tried_reading, vocabulary

TOOL = grammar("tool")
SIGNS = "".join([chr(code) for code in range(32, 127)])
NO_ROOMS = [thing for thing in ANY_THINGS if thing is not None and thing not in ({}, {"a": "b"})] + [
    {"A": "b"}, {"": "b"}, {"abcdefghi": "b"}, {5: "b"}, {"a": 5}, {"a": None}, {"a": ("b",)}, {"a": ["b"]},
    {"a": "\t"},
    {"a": "b", "c": "\u00e9"}, {"a": "b" * 2001}, {("a",): "b"}, {"a": "b", None: "b"}, [("a", "b")],
]
NO_BOOKS = [thing for thing in ANY_THINGS if thing is not None and thing != {}] + [
    {"a": ("b",)}, {("a",): ("b",)}, {((), "a"): ["b"]}, {((), "a"): "b"}, {((), "a"): ("b",) * 7}, {((), "A"): ("b",)},
    {((), ""): ("b",)}, {((), "a", "b"): ("b",)}, {("a", "b"): ("b",)}, {(("a", "B"), "b"): ("b",)},
    {(("a", 5), "b"): ()},
    {((), "a"): ("b", 5)}, {((), "a"): ("b\n",)}, {((), "a"): ("b" * 41,)}, {((), "a"): None}, {((), 5): ()},
    {None: ()},
    {((), "a"): ("b",), ((), "c"): {}}, [(((), "a"), ("b",))], {(None, "a"): ()},
]


def chosen(chance, words, most):
    """A tuple of some of these, up to most."""
    return tuple([chance.choice(words) for _ in range(chance.randint(0, most))])


class ReadBookTests(Refusals):
    """Point 51: a book's text, read."""

    def test_51_rows(self):
        self.assert_same(read_book("put size = 5"), {(("put",), "size"): ("5",)})
        self.assert_same(read_book("size = 5"), {((), "size"): ("5",)})
        self.assert_same(read_book("a b c d = x 'y z' \"\" = = #"),
                         {(("a", "b", "c"), "d"): ("x", "y z", "", "=", "=", "#")})
        self.assert_same(read_book("a ="), {((), "a"): ()})
        self.assert_same(read_book("'a' \"b\" \\= c"), {(("a",), "b"): ("c",)})
        self.assert_same(read_book("  a  =  1 2 3 4 5 6  "), {((), "a"): tuple("123456")})
        self.assert_same(read_book("a = 1\nb = 2\nput a = 3\n"),
                         {((), "a"): ("1",), ((), "b"): ("2",), (("put",), "a"): ("3",)})

    def test_51_rows_that_count_for_nothing(self):
        for text in ("", "\n", " ", "   \n\n  ", "#", "  # a = 5", "#'", "# \\", "#" + "a" * 3000, "\n#a = 1\n \n"):
            self.assert_same(read_book(text), {})
        self.assert_same(read_book("# a\n\n a = 1 #\n  #b = 2"), {((), "a"): ("1", "#")})

    def test_51_the_later_row_counts(self):
        self.assert_same(read_book("a = 1\nb = 2\na = 3 4\na ="), {((), "a"): (), ((), "b"): ("2",)})
        self.assert_same(read_book("put a = 1\na = 2\nput a = 3"), {(("put",), "a"): ("3",), ((), "a"): ("2",)})

    def test_51_rows_that_are_none_by_number(self):
        bad = ["a", "= 5", "=", "a 5", "a=5", "a =5", "A = 5", "a b", "a5 = 5", "abcdefghi = 5", "'' = 5", "a '' = 5",
               "a = '5", "a = 5\\",
               "a = \"5", "'#' = 5", "a # = 5", "a = 1 2 3 4 5 6 7", "a = " + "b" * 41, "a # b", "'a b' = 5", "-- = 5",
               "a = ''" + " b" * 39,
               "a " * 39 + "= b c", "a = " + " " * 2000]
        for row in bad:
            for ahead in ([], ["a = 5"], ["", "# b", "b = 6"]):
                for behind in ([], ["a = 5", "b"], [""]):
                    self.assert_refused(NoRow, {"at": len(ahead)}, read_book, "\n".join(ahead + [row] + behind))

    def test_51_no_text(self):
        for thing in [thing for thing in ANY_THINGS if not isinstance(thing, str)]:
            self.assert_refuses_found(NoText, thing, read_book, thing)
        for text in ("a = 5\t", "\u00e9", "#\r\n", "a\x00", "# \x7f", "a = \u00a0\nb"):
            self.assert_refuses_found(NoText, text, read_book, text=text)
        self.assert_refused(NoRow, {"at": 1}, read_book, text="\nb")


class BookTextTests(Refusals):
    """Point 51: a book, written."""

    def test_51_rows_in_the_order_of_keys(self):
        book = {(("put",), "size"): ("5",), ((), "z"): ("a b", "", "'", "="), (("a", "b"), "c"): (),
                (("put",), "a"): ("#",), ((), "a"): ("\\",)}
        self.assert_same(book_text(book), "a = \\\\\nz = a\\ b '' \\' =\na b c =\nput a = #\nput size = 5")
        self.assert_same(book_text({}), "")
        self.assert_same(book_text(book={((), "ab"): ()}), "ab =")

    def test_51_what_is_written_is_read_as_the_same(self):
        chance = random.Random(51)
        names = ["a", "put", "size", "abcdefgh", "z"]
        for _ in range(200):
            book = {}
            for _ in range(chance.randint(0, 5)):
                words = tuple(["".join(chosen(chance, "ab='\"\\# " + SIGNS, 9)) for _ in range(chance.randint(0, 6))])
                book[chosen(chance, names, 3), chance.choice(names)] = words
            before = anew(book)
            text = book_text(book)
            self.assert_same(read_book(text), book)
            self.assertEqual(book, before)
            rows = text.split("\n") if text else []
            self.assertEqual(len(rows), len(book))
            self.assertEqual([list(read_book(row))[0] for row in rows], sorted(book))

    def test_51_no_book(self):
        for thing in NO_BOOKS + [None]:
            self.assert_refuses_found(NoBook, thing, book_text, thing)


class CalledTests(Refusals):
    """Points 52 and 53: which layer gives a worth."""

    def assert_layers(self, option, words, room, book, worth, whence, places=()):
        """The worth of one option and whence it is."""
        told = Grammar(command("a", [option], places), own=OWN)
        before = anew((room, book))
        call = called(told, read(told, words), room=room, book=book)
        self.assert_same(call.worths(), [((), "go", worth)])
        self.assert_same(call.worth((), "go"), worth)
        self.assertIs(type(call.worth((), "go")), type(worth))
        self.assert_same(call.whence(), {((), "go"): whence})
        self.assertEqual((room, book), before)

    def test_52_the_first_layer_that_gives_one(self):
        room, book = {"here": "7"}, {((), "go"): ("8",)}
        option = one("go", NUMBER, "g", 9, source="here")
        self.assert_layers(option, ["-g6"], room, book, 6, "line")
        self.assert_layers(option, [], room, book, 7, "room")
        self.assert_layers(option, [], {"hers": "7", "go": "5"}, book, 8, "book")
        self.assert_layers(option, [], None, book, 8, "book")
        self.assert_layers(option, [], {}, {}, 9, "default")
        self.assert_layers(option, [], None, None, 9, "default")
        self.assert_layers(one("go", NUMBER, source="here"), [], None, None, None, "none")
        self.assert_layers(one("go", NUMBER, source="here"), [], room, None, 7, "room")
        self.assert_layers(one("go", NUMBER), [], {"go": "7"}, None, None, "none")

    def test_52_what_is_0_or_has_none_gives_a_worth_too(self):
        self.assert_layers(flag("go", default=1, source="r"), ["--no-go"], {"r": "yes"}, {((), "go"): ("yes",)}, 0,
                           "line")
        self.assert_layers(flag("go", default=1, source="r"), [], {"r": "no"}, {((), "go"): ("yes",)}, 0, "room")
        self.assert_layers(flag("go", default=1, source="r"), [], {}, {((), "go"): ("no",)}, 0, "book")
        self.assert_layers(flag("go", default=0), [], {}, {}, 0, "default")
        self.assert_layers(one("go", NUMBER, default=5, source="r"), ["--go=0"], {"r": "1"}, {}, 0, "line")
        self.assert_layers(one("go", TEXT, default="a", source="r"), [], {"r": ""}, {((), "go"): ("b",)}, "", "room")
        self.assert_layers(one("go", TEXT, default="a"), [], {}, {((), "go"): ("",)}, "", "book")
        self.assert_layers(many("go", TEXT, default=("a",), source="r"), [], {"r": ""}, {((), "go"): ("b",)}, (),
                           "room")
        self.assert_layers(many("go", TEXT, default=("a",), source="r"), [], {}, {((), "go"): ()}, (), "book")
        self.assert_layers(many("go", TEXT), [], {}, {}, (), "default")
        self.assert_layers(count("go", default=3, source="r"), [], {"r": "0"}, {((), "go"): ("5",)}, 0, "room")

    def test_52_flags_and_counts(self):
        for worth, text in enumerate(["no", "yes"]):
            self.assert_layers(flag("go", source="r"), [], {"r": text}, None, worth, "room")
            self.assert_layers(flag("go"), [], None, {((), "go"): (text,)}, worth, "book")
        for worth in range(10):
            self.assert_layers(count("go", source="r"), [], {"r": str(worth)}, None, worth, "room")
            self.assert_layers(count("go"), [], None, {((), "go"): (str(worth),)}, worth, "book")
        self.assert_layers(flag("go"), ["--go"], None, None, 1, "line")
        self.assert_layers(count("go", "g"), ["-ggg"], None, None, 3, "line")

    def test_52_the_very_text_of_one(self):
        self.assert_layers(one("go", ("text", 20), source="r"), [], {"r": "'a b' \\c \"d"}, None, "'a b' \\c \"d",
                           "room")
        self.assert_layers(one("go", ("text", 20)), [], None, {((), "go"): ("'a b'",)}, "'a b'", "book")
        self.assert_layers(one("go", ODD, source="r"), [], {"r": "--size=1"}, None, "--size=1", "room")
        self.assert_layers(one("go", COLOR, source="r"), [], {"r": "grey"}, None, "grey", "room")

    def test_52_many_by_a_line(self):
        self.assert_layers(many("go", TEXT, source="r"), [], {"r": " 'a b'  \"\"\nc\\ d '' "}, None,
                           ("a b", "", "c d", ""), "room")
        self.assert_layers(many("go", NUMBER, source="r"), [], {"r": "1 2 3 4 5 6"}, None, (1, 2, 3, 4, 5, 6), "room")
        self.assert_layers(many("go", NUMBER, source="r"), [], {"r": " \n "}, None, (), "room")
        self.assert_layers(many("go", SIZE), [], None, {((), "go"): ("big", "big", "small")}, ("big", "big", "small"),
                           "book")
        self.assert_layers(many("go", TEXT), [], None, {((), "go"): ("' '", "\\")}, ("' '", "\\"), "book")

    def test_52_by_path_and_name(self):
        beneath = command("b", [one("go", NUMBER), flag("on", source="r")])
        told = Grammar(command("a", [one("go", NUMBER), flag("on", source="r")],
                               commands=[beneath, command("c", [one("go", NUMBER)])]))
        book = {((), "go"): ("1",), (("b",), "go"): ("2",), (("c",), "go"): ("three",)}
        call = called(told, (("b",), ((), (("on", 1),)), ()), room={"r": "no"}, book=book)
        self.assert_same(call.worths(), [((), "go", 1), ((), "on", 0), (("b",), "go", 2), (("b",), "on", 1)])
        self.assert_same(call.whence(), {((), "go"): "book", ((), "on"): "room", (("b",), "go"): "book",
                                         (("b",), "on"): "line"})
        self.assertEqual(list(call.whence()), [((), "go"), ((), "on"), (("b",), "go"), (("b",), "on")])

    def test_53_path_places_and_worths(self):
        call = call_line(TOOL, "-v put --to big x")
        self.assert_same(call.path(), ("put",))
        self.assert_same(call.places(), [("what", "x"), ("where", None), ("more", ())])
        self.assert_same(call.worths(), [
            ((), "loud", 0), ((), "size", 4), ((), "level", 1), (("put",), "tag", ()), (("put",), "times", 0),
            (("put",), "force", 1), (("put",), "fast", 0), (("put",), "to", "big"),
        ])
        whence = [call.whence()[path, name] for path, name, _ in call.worths()]
        self.assertEqual(whence, ["default", "default", "line", "default", "default", "default", "default", "line"])
        self.assertEqual(call_line(TOOL, "put x -- -x a b").places(),
                         [("what", "x"), ("where", "-x"), ("more", ("a", "b"))])
        self.assertEqual(call_line(TOOL, "purge").places(), [])
        self.assertEqual(call_line(TOOL, "pull -cred list 5 6").places(), [("rows", (5, 6))])
        self.assertEqual(call_line(grammar("dash"), "").places(), [("in", None), ("out", ())])

    def test_53_a_worth_of_what_is_not_there(self):
        call = call_line(TOOL, "put x")
        self.assertEqual(call.worth(path=("put",), name="to"), None)
        self.assertEqual(call.worth((), "size"), 4)
        for path, name in [((), "to"), (("put",), "size"), (("put",), "what"), (("pull",), "color"), (None, "size"),
                           ([], "size"), ((), None),
                           ((), ["size"]), (["put"], "to"), ("put", "to"), (("put", "to"), "to"),
                           (TOOL, call)] + [(thing, thing) for thing in ANY_THINGS]:
            with self.assertRaises(NotThere) as caught:
                call.worth(path, name)
            self.assert_same(caught.exception.found, (path, name))
            self.assertIs(caught.exception.found[0], path)

    def test_53_equal_whatever_whence(self):
        calls = [call_line(TOOL, "purge"), call_line(TOOL, "--no-loud -s4 -v purge"),
                 call_line(TOOL, "--no-l purge", room={"size": "4"}),
                 call_line(TOOL, "purge", book={((), "level"): ("1",)})]
        for first, second in itertools.product(calls, calls):
            self.assertIs(first == second, True)
            self.assertIs(first != second, False)
        others = [call_line(TOOL, line) for line in ("-l purge", "-s5 purge", "put x", "put y", "put x -- -x",
                                                     "pull -cred list 5", "pull -cred list 5 6")]
        for first, second in itertools.product(calls[:1] + others, others + calls[:1]):
            self.assertIs(first == second, first is second)
        for thing in ANY_THINGS + [("purge",), TOOL]:
            self.assertIs(calls[0] == thing, False)
            self.assertIs(thing == calls[0], False)

    def test_53_equal_needs_equal_paths(self):
        told = Grammar(command("a", commands=[command("b"), command("c")]))
        self.assertEqual(call_line(told, "b"), call_line(told, "b"))
        self.assertNotEqual(call_line(told, "b"), call_line(told, "c"))
        self.assertEqual(differing(call_line(told, "b"), call_line(told, "c")), [((), "", ("b",), ("c",))])

    def test_53_equal_needs_equal_places(self):
        told = Grammar(command("a", places=[("in", NAME, "rest")]))
        other = Grammar(command("b", places=[("in", NAME, "maybe")]))
        third = Grammar(command("b", places=[("out", NAME, "rest")]))
        self.assertEqual(call_line(told, "x"), call_line(told, "x"))
        self.assertNotEqual(call_line(told, ""), call_line(other, ""))
        self.assertNotEqual(call_line(told, ""), call_line(third, ""))

    def test_7_told_lists_are_new_and_what_was_handed_in_stays(self):
        room, book = {"size": "7"}, {((), "level"): ("2",)}
        call = call_line(TOOL, "put x", room=room, book=book)
        worths, whence = call.worths(), call.whence()
        room.clear()
        book.clear()
        call.worths().clear()
        call.places().append(5)
        call.whence().clear()
        self.assertEqual((call.worths(), call.whence()), (worths, whence))
        self.assertEqual(call.places(), [("what", "x"), ("where", None), ("more", ())])
        self.assertEqual((call.worth((), "size"), call.worth((), "level")), (7, 2))

    def test_52_against_all_layers_tried(self):
        for number in range(3000, 3060):
            root, chance = made(number, most=2, kinds=SMALL_KINDS, levels=1), random.Random(number)
            told = Grammar(root, own=OWN)
            for _ in range(3):
                words = led(chance, root, 6, vocabulary(root), Walk(root), is_live)
                reading = tried_reading(root, words)
                if reading is not None:
                    self.assert_as_tried(told, reading, {"room": "1"}, {})
                    self.assert_as_tried(told, reading, {},
                                         {(reading[0], name): ("1",) for name in self.names(told, reading[0])})

    def names(self, told, path):
        """The names of a command's options."""
        return [option[0] for option in told.command(path)[1]]

    def assert_as_tried(self, told, reading, room, book):
        """The Call, or the first refusal, is as tried by hand, where all texts are 1."""
        worths = []
        for at, row in enumerate(reading[1]):
            path, stands = reading[0][:at], dict(reading[1][at])
            for name, _, form, kind, default, need, source in told.command(path)[1]:
                if name in stands:
                    worths.append((path, name, stands[name], "line"))
                elif source in room or (path, name) in book:
                    one_worth = {"number": 1, "text": "1"}.get(kind[0]) if kind else 1
                    fits = form == "count" or kind and (kind[0] == "text" or kind[:1] == ("number",
                        ) and kind[1] <= 1 <= kind[2])
                    if not fits:
                        found = "1" if source in room else ("1",)
                        with self.assertRaises(Unread) as caught:
                            called(told, reading, room=room, book=book)
                        self.assertEqual(vars(caught.exception),
                                         {"layer": "room" if source in room else "book", "name": name, "found": found})
                        return
                    worths.append((path, name, (one_worth,) if form == "many" else one_worth,
                                   "room" if source in room else "book"))
                elif default is None and need:
                    self.assert_refused(Lacks, {"name": name}, called, told, reading, room=room, book=book)
                    return
                else:
                    worths.append((path, name, default, "none" if default is None else "default"))
        call = called(told, reading, room=room, book=book)
        self.assertEqual(call.worths(), [row[:3] for row in worths])
        self.assertEqual(call.whence(), {row[:2]: row[3] for row in worths})


class RefusedTests(Refusals):
    """Point 52: what is refused, the first that is due."""

    def setUp(self):
        options = [flag("aa", source="ra"), count("bb", source="rb"), one("cc", NUMBER, source="rc", need=True),
                   many("dd", COLOR, source="rd"), one("ee", ODD, source="re")]
        self.grammar = Grammar(command("a", options, commands=[command("b", [one("cc", NAME, need=True)])]), own=OWN)
        self.reading = (("b",), ((("cc", 5),), (("cc", "x"),)), ())

    def assert_unread(self, layer, name, found, **layers_given):
        """Unread with just these fields."""
        self.assert_refused(Unread, {"layer": layer, "name": name, "found": found}, called, self.grammar, self.reading,
                            **layers_given)

    def test_52_no_grammar_no_reading_no_room_no_book_in_this_order(self):
        for thing in ANY_THINGS + [ROOTS["bare"]]:
            self.assert_refuses_found(NoGrammar, thing, called, thing, None, room=5, book=5)
            self.assert_refuses_found(NoGrammar, thing, layers_of, thing, None, None, None, room=5, book=5)
            self.assert_refuses_found(NoReading, thing, called, self.grammar, thing, room=5, book=5)
            self.assert_refuses_found(NoReading, thing, layers_of, self.grammar, thing, None, None, room=5, book=5)
        for thing in NO_ROOMS:
            self.assert_refuses_found(NoRoom, thing, called, self.grammar, self.reading, room=thing, book=5)
            self.assert_refuses_found(NoRoom, thing, layers_of, self.grammar, self.reading, None, None, room=thing,
                                      book=5)
            self.assert_refuses_found(NoRoom, thing, call_line, self.grammar, "x", room=thing, book=5)
        for thing in NO_BOOKS:
            self.assert_refuses_found(NoBook, thing, called, self.grammar, self.reading, room={"ra": "x"}, book=thing)
            self.assert_refuses_found(NoBook, thing, layers_of, self.grammar, self.reading, None, None, book=thing)
            self.assert_refuses_found(NoBook, thing, call_line, self.grammar, "x", book=thing)

    def test_52_rooms_and_books_that_are_such(self):
        room = {"a": "", "zzzzzzzz": "'" + "x\n" * 900, "b": "a" * 2000}
        self.assertEqual(called(self.grammar, self.reading, room=room).worth((), "aa"), 0)
        self.assertEqual(called(self.grammar, self.reading, room=None, book=None), called(self.grammar, self.reading))

    def test_52_a_key_of_the_book_that_is_no_option(self):
        good = {((), "aa"): ("yes",), (("b",), "cc"): ("y",)}
        for key in [((), "zz"), ((), "a"), (("b",), "aa"), (("c",), "cc"), (("b", "b"), "cc"), ((), "b"),
                    (("a",), "aa")]:
            with self.assertRaises(NotThere) as caught:
                called(self.grammar, self.reading, room={"ra": "x"}, book={**good, key: ("x",), (("zz",), "zz"): ()})
            self.assertIs(caught.exception.found, key)
        with self.assertRaises(NotThere) as caught:
            called(self.grammar, self.reading, book={(("b",), "zz"): (), ((), "zz"): (), ((), "aa"): ("x",)})
        self.assertEqual(caught.exception.found, ((), "zz"))
        self.assertEqual(called(self.grammar, self.reading, book=good).worth((), "aa"), 1)
        places = grammar("places")
        with self.assertRaises(NotThere):
            called(places, read(places, ["a", "red"]), book={((), "one"): ("x",)})

    def test_52_what_a_room_gives_can_not_be_read(self):
        for text in ("", "Yes", "1", "0", "on", "yes ", "true", "'yes'"):
            self.assert_unread("room", "aa", text, room={"ra": text})
        for text in ("", "10", "-1", "01", "x", " 1", "yes", "1000000"):
            self.assert_unread("room", "bb", text, room={"rb": text})
        for text in ("x", "13", "-0", "''"):
            with self.assertRaises(Unread) as caught:
                called(self.grammar, (("b",), ((), (("cc", "x"),)), ()), room={"rc": text})
            self.assertEqual(vars(caught.exception), {"layer": "room", "name": "cc", "found": text})
        for text in ("blue", "red blue", "'red", "red \\", "red\\\nred", "red " * 7, "red " * 41, "'red grey'",
                     "a" * 41, "''"):
            self.assert_unread("room", "dd", text, room={"rd": text})
        for text in ("", "-y", "-x ", "'-x'"):
            self.assert_unread("room", "ee", text, room={"re": text})

    def test_52_what_a_book_gives_can_not_be_read(self):
        for words in ((), ("yes", "no"), ("Yes",), ("1",), ("",)):
            self.assert_unread("book", "aa", words, book={((), "aa"): words})
        for words in ((), ("1", "1"), ("10",), ("",), ("yes",)):
            self.assert_unread("book", "bb", words, book={((), "bb"): words})
        for words in (("blue",), ("red", "blue"), ("",), ("red grey",)):
            self.assert_unread("book", "dd", words, book={((), "dd"): words})
        for words in ((), ("-x", "-x"), ("-y",)):
            self.assert_unread("book", "ee", words, book={((), "ee"): words})

    def test_52_only_the_first_layer_that_gives_is_read(self):
        room, book = {"rc": "x"}, {((), "cc"): ("x",)}
        self.assertEqual(called(self.grammar, self.reading, room=room, book=book).worth((), "cc"), 5)
        room, book = {"ra": "yes"}, {((), "aa"): ("x",)}
        self.assertEqual(called(self.grammar, self.reading, room=room, book=book).worth((), "aa"), 1)

    def test_52_option_by_option(self):
        self.assert_unread("room", "aa", "x", room={"ra": "x", "rb": "x"}, book={((), "ee"): ()})
        self.assert_unread("book", "bb", ("x",), room={"rd": "'"}, book={((), "bb"): ("x",)})
        bare = (("b",), ((), ()), ())
        self.assert_refused(Lacks, {"name": "cc"}, called, self.grammar, bare)
        self.assert_refused(Lacks, {"name": "cc"}, called, self.grammar, bare, room={"rd": "'"})
        with self.assertRaises(Unread) as caught:
            called(self.grammar, bare, room={"rb": "x"})
        self.assertEqual(caught.exception.name, "bb")
        with self.assertRaises(Unread) as caught:
            called(self.grammar, bare, room={"rc": "5", "rd": "'"})
        self.assertEqual(caught.exception.name, "dd")
        self.assert_refused(Lacks, {"name": "cc"}, called, self.grammar, bare, room={"rc": "5"})
        self.assertEqual(called(self.grammar, bare, room={"rc": "5"}, book={(("b",), "cc"): ("y",)}).worth(("b",),
            "cc"), "y")

    def test_52_no_readings(self):
        told = grammar("tool")
        good = (("put",), ((("loud", 1), ("size", 0), ("level", 9)),
                           (("tag", ("a", "")), ("times", 1), ("force", 0), ("fast", 1), ("to", "big"))),
                (("what", "x"), ("where", "-x"), ("more", ("a",))))
        called(told, good)
        path, (root, row), places = good
        bad = [
            list(good), good[:2], good + ((),), (["put"], good[1], places), ((), good[1], places),
            (("pull",), good[1], ()), (("put",), [root, row], places),
            (path, (root,), places), (path, (root, row, ()), places), (path, (list(root), row), places),
            (path, (root, row), list(places)),
            (("purge",), (root, row), ()), (("zz",), (root, row), places),
            (("pull", "none"), ((), (("no", 1),), ()), ()), ((), ((),), ()),
            (("pull", "lists"), ((), (), ()), (("row", "a"),)),
            (("pull", "lists"), ((), (("no", 0),), ()), (("row", "a"),)),
            (("pull", "lists"), ((), (("color", "red"), ("no", 1)), ()), (("row", "a"),)),
            (("pull", "lists"), ((), (("colder", "a"),), ()), (("row", "a"),)),
        ]
        for wrong in [("loud", 2), ("loud", -1), ("loud", True), ("loud", None), ("loud", "1"), ("level", 0),
                      ("level", 10), ("level", True), ("size", 13), ("size", "4"),
                      ("size", None), ("size", True), ("zz", 1), ["loud", 1], ("loud",), ("loud", 1, 1), "loud", None,
                      (["loud"], 1), (None, None)]:
            bad.append((path, ((wrong,), row), places))
        bad.append((path, ((("size", 4), ("loud", 1)), row), places))
        bad.append((path, ((("loud", 1), ("loud", 1)), row), places))
        for wrong in [("tag", ()), ("tag", ["a"]), ("tag", ("a",) * 7), ("tag", ("abcdef",)), ("tag", ("a", 5)),
                      ("tag", "a"), ("tag", None), ("tag", (5,)), ("to", "huge"), ("to", ""),
                      ("to", ("big",)), ("fast", False)]:
            bad.append((path, (root, (wrong, ("times", 1)) if wrong[0] == "tag" else (("times", 1), wrong)), places))
        called(told, (path, (root, (("tag", ("a",)), ("times", 1))), places))
        bad.append((path, (root, (("tag", ("a",)),)), places))
        bad.append((path, (root, (("force", 1), ("fast", 1))), places))
        for wrong in [(), (("what", ""),), (("what", "x"), ("where", None)), (("what", "x"), ("more", ("a",))),
                      (("where", "-x"), ("what", "x")), (("what", 5),),
                      (("where", "-x"),), (("what", "x"), ("where", "x")), places[:2] + (("more", ()),),
                      places[:2] + (("more", ["a"]),),
                      places[:2] + (("more", ("a",) * 31),), places[:2] + (("more", "a"),),
                      places[:2] + (("more", ("a" * 21,)),), places + (("zz", "a"),),
                      places[:1] * 2, (["what", "x"],), (("what",),), ("what", "x"), (("what", "x", "x"),), None, {},
                      "x"]:
            bad.append((path, (root, row), wrong))
        for thing in bad:
            self.assert_refuses_found(NoReading, thing, called, told, thing)
        some = Grammar(command("a", places=[("in", NAME, "some")]))
        for thing in [((), ((),), ()), ((), ((),), (("in", ()),)), ((), ((),), (("in", ("a",) * 31),)),
                      ((), ((),), (("in", "a"),))]:
            self.assert_refuses_found(NoReading, thing, called, some, thing)
        self.assertEqual(called(some, ((), ((),), (("in", ("a",) * 30),))).places(), [("in", ("a",) * 30)])

    def test_52_a_reading_of_more_than_forty_words(self):
        options = [many("aa", NAME), many("bb", NAME)]
        told = Grammar(command("a", options, [("in", ODD, "rest")]), own=OWN)
        reading = ((), ((("aa", ("x",) * 6), ("bb", ("y",) * 6)),), (("in", ("-x",) * 30),))
        self.assertEqual(called(told, reading).worths(), [((), "aa", ("x",) * 6), ((), "bb", ("y",) * 6)])


class LayersOfTests(Refusals):
    """Point 54."""

    def setUp(self):
        beneath = command("b", [one("go", NUMBER, "g", 9, source="r"), one("to", NAME, need=True, source="t"),
                                many("by", TEXT, "y", source="y")])
        self.grammar = Grammar(command("a", [flag("on"), one("up", NAME, need=True)], commands=[beneath, command("c")]))

    def test_54_all_layers_in_their_order(self):
        reading = (("b",), ((), (("go", 0),)), ())
        room, book = {"r": "1"}, {(("b",), "go"): ("2",)}
        ask = (("b",), "go")
        self.assert_same(layers_of(self.grammar, reading, *ask, room=room, book=book),
                         [("line", 0), ("room", 1), ("book", 2), ("default", 9)])
        self.assert_same(layers_of(self.grammar, reading, *ask, book=book), [("line", 0), ("book", 2), ("default", 9)])
        self.assert_same(layers_of(self.grammar, (("b",), ((), ()), ()), *ask, room=room),
                         [("room", 1), ("default", 9)])
        self.assert_same(layers_of(self.grammar, (("b",), ((), ()), ()), *ask), [("default", 9)])
        self.assert_same(layers_of(self.grammar, (("b",), ((), ()), ()), (), "on", room={}), [("default", 0)])
        self.assert_same(layers_of(self.grammar, (("b",), ((), (("by", ("a",)),)), ()), ("b",), "by",
                                   room={"y": "b c"}),
                         [("line", ("a",)), ("room", ("b", "c")), ("default", ())])

    def test_54_none_where_its_whence_is_none(self):
        told = Grammar(command("a", [one("go", NUMBER), flag("on")]))
        self.assert_same(layers_of(told, ((), ((),), ()), (), "go"), [])
        self.assert_same(layers_of(told, ((), ((("on", 1),),), ()), (), "on"), [("line", 1), ("default", 0)])

    def test_54_an_option_in_need_to_which_no_layer_gives_anything(self):
        reading = (("b",), ((), ()), ())
        self.assert_same(layers_of(self.grammar, reading, ("b",), "to"), [])
        self.assert_same(layers_of(self.grammar, reading, (), "up", room={"r": "x"}, book={}), [])
        self.assert_same(layers_of(self.grammar, reading, ("b",), "to", room={"t": "ab"}), [("room", "ab")])
        self.assert_refused(Lacks, {"name": "up"}, called, self.grammar, reading)

    def test_54_what_other_options_lack_or_can_not_be_read_plays_no_part(self):
        reading = (("b",), ((), ()), ())
        self.assertEqual(layers_of(self.grammar, reading, (), "on", room={"r": "x", "y": "'"},
                                   book={(("b",), "to"): ()}), [("default", 0)])

    def test_54_unread_of_the_first_that_can_not_be_read(self):
        reading, path = (("b",), ((), (("go", 5),)), ()), ("b",)
        with self.assertRaises(Unread) as caught:
            layers_of(self.grammar, reading, path, "go", room={"r": "x"}, book={(path, "go"): ("x",)})
        self.assertEqual(vars(caught.exception), {"layer": "room", "name": "go", "found": "x"})
        with self.assertRaises(Unread) as caught:
            layers_of(self.grammar, reading, path, "go", room={"r": "7"}, book={(path, "go"): ("7", "7")})
        self.assertEqual(vars(caught.exception), {"layer": "book", "name": "go", "found": ("7", "7")})

    def test_54_not_there(self):
        reading = (("b",), ((), ()), ())
        for path, name in [((), "go"), (("b",), "on"), (("c",), "on"), (["b"], "go"), ((), None), (None, "on"),
                           (("b",), ["go"])]:
            with self.assertRaises(NotThere) as caught:
                layers_of(self.grammar, reading, path, name, room={"r": "x"})
            self.assert_same(caught.exception.found, (path, name))
        with self.assertRaises(NotThere) as caught:
            layers_of(self.grammar, (("c",), ((), ()), ()), path=("b",), name="go", book={((), "zz"): ()})
        self.assertEqual(caught.exception.found, ((), "zz"))

    def test_54_the_first_is_the_calls(self):
        for number in range(3100, 3140):
            root, chance = made(number, most=2, kinds=[("text", 3), NAME, ("number", 0, 1)],
                                levels=1), random.Random(number)
            told = Grammar(root, own=OWN)
            words = led(chance, root, 6, vocabulary(root), Walk(root), is_live)
            reading = tried_reading(root, words)
            if reading is None:
                continue
            try:
                call = called(told, reading, room={"no": "no"})
            except (Lacks, Unread):
                continue
            for path, name, worth in call.worths():
                whence = call.whence()[path, name]
                if whence != "line":
                    found = layers_of(told, reading, path, name, room={"no": "no"})
                    self.assertEqual(found[:1], [] if whence == "none" else [(whence, worth)])
                found = layers_of(told, reading, path, name)
                self.assertEqual(found[:1] == [("line", worth)], whence == "line")


class DifferingTests(Refusals):
    """Point 55."""

    def test_55_worths_and_places(self):
        one_call, other = call_line(TOOL, "put x"), call_line(TOOL, "-l put -n y -- -x a")
        self.assert_same(differing(one_call, other), [
            ((), "loud", 0, 1), (("put",), "times", 0, 1), (("put",), "what", "x", "y"),
            (("put",), "where", None, "-x"), (("put",), "more", (), ("a",)),
        ])
        self.assert_same(differing(other, one_call), [row[:2] + (row[3], row[2]) for row in differing(one_call, other)])
        self.assert_same(differing(one_call, call_line(TOOL, "put x", book={((), "level"): ("1",)})), [])

    def test_55_paths(self):
        first, second = call_line(TOOL, "put x"), call_line(TOOL, "-l pull -cred lists a")
        self.assert_same(differing(first, second), [
            ((), "", ("put",), ("pull", "lists")), ((), "loud", 0, 1), (("put",), "tag", (), None),
            (("put",), "times", 0, None),
            (("put",), "force", 1, None), (("put",), "fast", 0, None), (("put",), "what", "x", None),
            (("put",), "more", (), None),
            (("pull",), "color", None, "red"), (("pull",), "no", None, 0), (("pull", "lists"), "row", None, "a"),
        ])
        self.assert_same(differing(call_line(TOOL, "purge"), first)[:2],
                         [((), "", ("purge",), ("put",)), (("put",), "tag", None, ())])

    def test_55_an_option_and_a_place_of_one_name(self):
        first = call_line(Grammar(command("a", [one("aa", NAME), one("bb", NAME)])), "--aa x")
        second = call_line(Grammar(command("a", [one("cc", NAME)], [("bb", NAME, "maybe"), ("aa", NAME, "maybe")])),
                           "y z --cc w")
        self.assert_same(differing(first, second), [((), "aa", "x", "z"), ((), "bb", None, "y"), ((), "cc", None, "w")])
        self.assert_same(differing(second, first), [((), "cc", "w", None), ((), "bb", "y", None), ((), "aa", "z", "x")])

    def test_55_no_call(self):
        call = call_line(TOOL, "purge")
        for thing in ANY_THINGS + [TOOL]:
            self.assert_refuses_found(NoCall, thing, differing, thing, 5)
            self.assert_refuses_found(NoCall, thing, differing, one=call, other=thing)

    def test_55_none_just_where_they_are_equal(self):
        lines = ["purge", "-l purge", "-v purge", "put x", "put x -- -x", "pull -cred lists a", "pull -cred lists b",
                 "pull -cgrey list 5"]
        calls = [call_line(TOOL, line) for line in lines]
        for first, second in itertools.product(calls, calls):
            self.assertIs(differing(first, second) == [], first == second)


class LineTests(Refusals):
    """Point 56."""

    def test_56_all_in_one(self):
        line = "-l 'put' --tag \"a b\" -n x\n"
        self.assertEqual(call_line(TOOL, line, room={"size": "7"}),
                         called(TOOL, read(TOOL, ["-l", "put", "--tag", "a b", "-n", "x"]), room={"size": "7"}))
        self.assertEqual(call_line(grammar=TOOL, line="purge", room=None, book=None), call_line(TOOL, "purge"))
        self.assertEqual(call_line(TOOL, "purge", book={((), "size"): ("2",)}).worth((), "size"), 2)

    def test_56_refused_the_first_that_is_due(self):
        for thing in ANY_THINGS:
            self.assert_refuses_found(NoGrammar, thing, call_line, thing, 5, room=5, book=5)
            if not isinstance(thing, str):
                self.assert_refuses_found(NoLine, thing, call_line, TOOL, thing, room=5, book=5)
        self.assert_refused(BadSign, {"at": 4}, call_line, TOOL, "put 'x", room=5, book=5)
        self.assert_refused(TooMany, {"many": 41}, call_line, TOOL, "a " * 41, room=5, book=5)
        self.assert_refuses_found(NoRoom, 5, call_line, TOOL, "zz", room=5, book=5)
        self.assert_refuses_found(NoBook, 5, call_line, TOOL, "zz", room={}, book=5)
        self.assert_refused(Wrong, {"at": 1, "sign": 0, "words": ("--",)}, call_line, TOOL, "purge zz",
                            room={"size": "x"}, book={((), "zz"): ()})
        with self.assertRaises(NotThere) as caught:
            call_line(TOOL, "purge", room={"size": "x"}, book={((), "zz"): ()})
        self.assertEqual(caught.exception.found, ((), "zz"))
        self.assert_refused(Unread, {"layer": "room", "name": "size", "found": "x"}, call_line, TOOL, "purge",
                            room={"size": "x"})
        told = Grammar(command("a", [one("go", NONE), one("to", NAME, need=True)]), own=OWN)
        self.assert_refused(Lacks, {"name": "to"}, call_line, told, "")


class ModuleTests(unittest.TestCase):
    """What stands where."""

    def test_call_has_its_methods_itself(self):
        for name in ("path", "worths", "places", "whence", "worth", "__eq__"):
            self.assertIn(name, vars(layers.Call))
        self.assertIs(type(call_line(TOOL, "purge")), Call)


if __name__ == "__main__":
    unittest.main()
