"""Points 7, 8 and the interface of callwords/errors.py: three families, and what stands straight under them."""

import copy
import unittest

from callwords import errors
from things import ANY_THINGS, Refusals

FAMILIES = {
    errors.CallError: ValueError,
    errors.Missing: KeyError,
    errors.Barred: LookupError,
}
FIELDS = {
    "CallError": {
        "NoNumber": ["found"], "NoName": ["found"], "NoTruth": ["found"], "NoWord": ["found"], "NoKind": ["found"],
        "NoWorth": ["found"], "NoList": ["found"], "NoLine": ["found"], "BadSign": ["at"], "NoState": ["found"],
        "NoOwn": ["found"], "Unfit": ["where", "why", "found"], "NoGrammar": ["found"], "NoReading": ["found"],
        "NoRoom": ["found"], "NoBook": ["found"], "NoText": ["found"], "NoRow": ["at"], "NoCall": ["found"],
        "NoChange": ["found"], "NoDeeds": ["found"], "NoAnswer": ["found"], "Wrong": ["at", "sign", "words"],
        "Unread": ["layer", "name", "found"],
    },
    "Missing": {"NotThere": ["found"], "Lacks": ["name"]},
    "Barred": {
        "TooMany": ["many"], "NoWay": ["found"], "Reads": ["found"], "Gone": ["where", "name"], "Over": ["many"],
        "Stuck": ["at"], "Busy": ["at"],
    },
}


def each_error():
    """Each error's family, class and names of fields."""
    for family, rows in FIELDS.items():
        for name, fields in rows.items():
            yield getattr(errors, family), getattr(errors, name), fields


class FamilyTests(Refusals):
    """The three families."""

    def test_8_families_stand_straight_under_pythons_errors(self):
        for family, base in FAMILIES.items():
            self.assertEqual(family.__bases__, (base,))

    def test_8_families_are_made_of_one_text(self):
        for family in FAMILIES:
            self.assertEqual(family("a text").args, ("a text",))

    def test_8_families_are_apart(self):
        self.assertFalse(issubclass(errors.CallError, LookupError))
        self.assertFalse(issubclass(errors.Missing, (ValueError, errors.Barred)))
        self.assertFalse(issubclass(errors.Barred, (ValueError, KeyError)))


class ErrorTests(Refusals):
    """Each error that the interface lists."""

    def test_8_each_is_straight_under_its_family(self):
        for family, error, _ in each_error():
            self.assertEqual(error.__bases__, (family,), error)

    def test_there_is_no_other(self):
        listed = {family.__name__ for family in FAMILIES} | {error.__name__ for _, error, _ in each_error()}
        self.assertEqual({name for name in vars(errors) if not name.startswith("_")}, listed)

    def test_8_each_is_made_of_its_fields_by_place(self):
        for _, error, fields in each_error():
            for thing in ANY_THINGS:
                values = [[thing, name] for name in fields]
                made = error(*values)
                self.assertEqual(list(vars(made)), fields)
                for name, value in zip(fields, values):
                    self.assertIs(getattr(made, name), value)

    def test_6_each_is_made_of_its_fields_by_name(self):
        for _, error, fields in each_error():
            values = {name: [name] for name in fields}
            made = error(**values)
            for name in fields:
                self.assertIs(getattr(made, name), values[name])

    def test_8_fields_are_the_very_things(self):
        for thing in ANY_THINGS:
            self.assertIs(errors.NoKind(thing).found, thing)
            self.assertIs(errors.NotThere(thing).found, thing)
            self.assertIs(errors.NoWay(thing).found, thing)

    def test_each_takes_no_more_and_no_less(self):
        for _, error, fields in each_error():
            with self.assertRaises(TypeError):
                error(*fields, 5)
            with self.assertRaises(TypeError):
                error(*fields[1:])

    def test_each_is_shown_and_copied(self):
        for _, error, fields in each_error():
            made = error(*fields)
            self.assertIn(fields[0], str(made))
            self.assertEqual(vars(copy.copy(made)), vars(made))

    def test_7_an_error_equals_no_other(self):
        self.assertNotEqual(errors.NoWord("a"), errors.NoWord("a"))
        self.assertNotEqual(errors.NoWord("a"), "a")


if __name__ == "__main__":
    unittest.main()
