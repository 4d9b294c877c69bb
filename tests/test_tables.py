"""Point 102: the table of a kind."""

import unittest

from callwords.errors import NoGrammar, NoKind, NotThere
from callwords.grammars import Grammar
from callwords.kinds import worth_of
from callwords.tables import table_of
from samples import OWN, command, one
from things import BAD_KINDS, Refusals

WORDS = {"up": ["b", "a", "c d"], "down": ["c d", "b", "a"], "names": ["on", "off"], "none": []}
GRAMMAR = Grammar(command("t"), own={name: (lambda words=words: list(words)) for name, words in WORDS.items()})


class TableTests(Refusals):
    """Tables of all kinds."""

    def test_102_tables(self):
        for kind, table in [
            (("number", -3, 12), ("number", -3, 12)), (("number", 0, 0), ("number", 0, 0)), (("name",), ("name",)),
            (("text", 1), ("text", 1)), (("text", 20), ("text", 20)), (("one", ("b", "a", "ab")), ("words", ("a", "ab", "b"))),
            (("own", "up"), ("words", ("a", "b", "c d"))), (("own", "down"), ("words", ("a", "b", "c d"))),
            (("own", "none"), ("words", ())), (("one", ("on", "off")), ("words", ("off", "on"))),
            (("own", "names"), ("words", ("off", "on"))),
        ]:
            self.assert_same(table_of(GRAMMAR, kind), table)
        self.assert_same(table_of(grammar=GRAMMAR, kind=("name",)), ("name",))

    def test_102_a_table_that_tells_its_words_in_another_order(self):
        told = Grammar(command("t", [one("aa", ("own", "w"))]), own={"w": lambda: ["z", "B", "a", " "]})
        other = Grammar(command("t", [one("aa", ("own", "w"))]), own={"w": lambda: [" ", "B", "z", "a"]})
        self.assert_same(table_of(told, ("own", "w")), ("words", (" ", "B", "a", "z")))
        self.assertEqual(table_of(other, ("own", "w")), table_of(told, ("own", "w")))

    def test_102_equal_tables_let_the_same_words_by(self):
        words = ["", "a", "b", "c d", "on", "off", "1", "-1", "0", "abc", "A"]
        kinds = [("own", name) for name in WORDS] + [("one", ("off", "on")), ("number", -1, 1), ("name",), ("text", 3)]
        for kind in kinds:
            for other in kinds:
                made, beside = ([worth_of(one, word, own=GRAMMAR.own_words(one)) for word in words] for one in (kind, other))
                self.assertEqual(table_of(GRAMMAR, kind) == table_of(GRAMMAR, other), made == beside)

    def test_102_refused(self):
        for thing in [None, True, "t", {}, command("t")]:
            self.assert_refuses_found(NoGrammar, thing, table_of, thing, None)
        for thing in BAD_KINDS:
            self.assert_refuses_found(NoKind, thing, table_of, GRAMMAR, thing)
        self.assert_refused(NotThere, {"found": "size"}, table_of, GRAMMAR, ("own", "size"))
        self.assertEqual(table_of(Grammar(command("t"), own=OWN), ("own", "size")), ("words", ("big", "small")))


if __name__ == "__main__":
    unittest.main()
