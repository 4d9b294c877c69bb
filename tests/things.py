"""What the tests hand in as any thing, and how they look at refusals."""

import copy
import unittest

from callwords.errors import NoWord, TooMany

# Each is something that is often taken for a number, a text or a list by mistake.
ANY_THINGS = [
    True, False, None, 0, 1, -1, 5, 9, 41, 10 ** 29, -(10 ** 29),
    "", "a", "ab", "7", "-7", "07", "-0", "-", " ", "'", "\\", "Ab", "\u00e9", "a\tb", "a\nb", "\x7f", "\u0661",
    "a" * 8, "a" * 9, "a" * 40, "a" * 41, "a" * 400, "flag", "one",
    [], (), {}, [[]], ((),), ["a"], ("a",), ["a", 1], ("a", None), ("a", "a"), ["a"] * 41, [True], {"a": "b"},
    {(): ()}, ["number", 0, 9], ("number", 0), ("number", True, 9), ("number", 9, 0), ("one", ["a"]), ("one", ()),
    ("one", ("a", "a")), ("name", "a"), ("text", 0), ("text", 21), ("own", "Ab"), ("own",), (0, 9), (["name"],),
    ([], None), ([], None, "'"), [[], None, ""], (["a"], 5, ""), ("a", "a", ""), ([], "a", "`"), ([5], None, ""),
    [[[["a"], {"b": (1, [None])}]]], NoWord("a"), TooMany(41),
]

GOOD_KINDS = [
    ("number", -999999, 999999), ("number", 3, 3), ("one", ("a",)), ("one", ("on", "off", "b", "c", "d", "e", "f", "g")),
    ("name",), ("text", 1), ("text", 20), ("own", "a"), ("own", "sizesize"), ("own", "name"), ("own", "number"),
    ("own", "text"), ("own", "one"), ("own", "own"), ("one", ("name", "own", "text", "number", "one")),
]
BAD_KINDS = [
    ("number", -1000000, 0), ("number", 0, 1000000), ("number", 1, 0), ("number", 0), ("number", 0, 1, 2),
    ("number", False, 1), ("number", 0, True), ("number", "0", "1"), ("number", None, 5), ["number", 0, 1],
    ("one", ()), ("one", tuple("abcdefghi")), ("one", ("a", "a")), ("one", ["a"]), ("one", ("A",)), ("one", ("",)),
    ("one", ("a", 5)), ("one", ("a", ["b"])), ("one", "a"), ("one",), ("one", ("a",), ("b",)), ("one", ("abcdefghi",)),
    ("name", "a"), ["name"], ("text", 0), ("text", 21), ("text", True), ("text", "5"), ("text",), ("text", 1, 2),
    ("own", ""), ("own", "abcdefghi"), ("own", "a1"), ("own", ("a",)), ("own",), ("own", "a", "b"),
    ("names",), (), ("",), (["name"],), (None,), ("flag",), "name", None, True, 5, {}, {"name": 1}, (("name",),),
    NoWord("name"),
]
BAD_OWN = [
    None, True, 0, "", "a", {}, {"a": "b"}, [""], ["a" * 21], ["a", "a"], ("a", "b", "a"), list("abcdefghi"),
    ["a", 5], ["a", True], ["a", None], [["a"]], ["\u00e9"], ["a\n"], NoWord("a"),
]
GOOD_OWN = [[], (), ["a"], ("a", "b"), ["a" * 20, " ", "A b", "'"], tuple("abcdefgh")]


class Refusals(unittest.TestCase):
    """Tests that look at what is refused, and how."""

    def assert_refused(self, error, fields, ask, *args, **named):
        """The very class, the fields, the very thing as found; what was handed in is as it was."""
        before = repr((args, named))
        with self.assertRaises(error) as caught:
            ask(*args, **named)
        self.assertIs(type(caught.exception), error)
        told = vars(caught.exception)
        self.assertEqual(list(told), list(fields))
        for name, field in fields.items():
            if name == "found":
                self.assertIs(told[name], field)
            self.assertIs(type(told[name]), type(field))
            self.assertEqual(told[name], field)
        self.assertEqual(repr((args, named)), before)

    def assert_refuses_found(self, error, thing, ask, *args, **named):
        """Refused with an error whose only field is found, the very thing."""
        self.assert_refused(error, {"found": thing}, ask, *args, **named)

    def assert_same(self, told, wanted):
        """Equal, and of one kind, so that True is no 1."""
        self.assertIs(type(told), type(wanted))
        self.assertEqual(told, wanted)


def anew(thing):
    """A copy of the thing that has nothing in common with it."""
    return copy.deepcopy(thing)
