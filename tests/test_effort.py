"""How much is done to answer: calls are counted, which hang on no clock, of one Grammar that was asked before."""

import sys
import unittest

from callwords.errors import Wrong
from callwords.grammars import Grammar
from callwords.layers import call_line
from callwords.reading import is_open, read, wanted
from callwords.writing import is_safe, safe_line, shortest

COLOUR = ("own", "colour")
PLACES = (("what", COLOUR, "one"), ("more", ("text", 20), "rest"))
OWN = {"colour": lambda: ["red", "blue", "green"]}
FEW = ["--rflaga", "--roned=red", "net", "put", "red", "x"]
MANY = ["--rflaga", "--roned=red", "--ronee=blue", "net", "--netoned=red", "--netonee=green", "-abc", "put", "-abc",
        "--poned=red", "--ponee=red", "--ponef=blue", "red"] + ["x"] * 21
WRONG = ["--rflaga", "--roned=red", "--ronee=blue", "net", "--netonee=greenish"]


def command(name, tag, places, commands):
    """A command with three flags and three options of one worth."""
    flags = [(tag + "flag" + letter, letter, "flag", None, 0, False, None) for letter in "abc"]
    ones = [(tag + "one" + letter, letter, "one", COLOUR, None, False, None) for letter in "def"]
    return name, tuple(flags + ones), places, (), commands


ROOT = command("tool", "r", (), tuple([
    command(name, name, (), (command("put", "p", PLACES, ()), command("get", "g", PLACES, ())))
    for name in ("net", "dis", "pag")]))
GRAMMAR = Grammar(ROOT, own=OWN)
CALL = call_line(GRAMMAR, " ".join(FEW))


def calls_of(ask):
    """How many calls are made by asking, the second time."""
    found = [0]

    def count(frame, event, thing):
        found[0] += event in ("call", "c_call")
    for _ in range(2):
        found[0] = 0
        before = sys.getprofile()
        sys.setprofile(count)
        try:
            ask()
        except Wrong:
            pass
        finally:
            sys.setprofile(before)
    return found[0]


class EffortTests(unittest.TestCase):
    """A quarter of the calls that it once took, of a new Grammar half of them."""

    def test_calls(self):
        reading = read(GRAMMAR, MANY)
        for name, most, ask in [
            ("is_safe", 850, lambda: is_safe(GRAMMAR, CALL, FEW)), ("wrong", 4100, lambda: read(GRAMMAR, WRONG)),
            ("read", 2200, lambda: read(GRAMMAR, MANY)), ("safe_line", 1500, lambda: safe_line(GRAMMAR, CALL)),
            ("shortest", 610, lambda: shortest(GRAMMAR, reading)), ("is_open", 360, lambda: is_open(GRAMMAR, FEW[:4], "r")),
            ("wanted", 700, lambda: wanted(GRAMMAR, [])), ("Grammar", 2800, lambda: Grammar(ROOT, own=OWN)),
        ]:
            self.assertLessEqual(calls_of(ask), most, name)


if __name__ == "__main__":
    unittest.main()
