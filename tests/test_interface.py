"""The interface: each name stands in its file, defined there, with the arguments as written."""

import importlib
import inspect
import unittest

# As DOC.md lists them; errors have a test file of their own.
INTERFACE = {
    "callwords.kinds": {
        "is_whole": "(thing, low, high)",
        "is_name": "(thing)",
        "is_letter": "(thing)",
        "is_word": "(thing)",
        "is_kind": "(thing)",
        "number_word": "(number)",
        "number_in": "(thing)",
        "is_worth": "(kind, thing, *, own=())",
        "word_of": "(kind, worth, *, own=())",
        "worth_of": "(kind, word, *, own=())",
        "begins_worth": "(kind, thing, *, own=())",
        "known_words": "(kind, *, own=())",
        "has_worth": "(kind, *, own=())",
        "default_fits": "(form, kind, default)",
    },
    "callwords.lines": {
        "cut": "(line)",
        "state_of": "(line)",
        "quoted": "(word)",
        "joined": "(words)",
        "quoted_behind": "(state, word)",
        "shows_cut": "(line, thing)",
        "are_alike": "(line, other)",
    },
    "callwords.grammars": {
        "sets": "(grammar, path)",
        "fits_some": "(grammar, path, on, off)",
        "command_words": "(grammar, path)",
        "option_words": "(grammar, path)",
        "flag_words": "(grammar, path)",
        "goes_bare": "(grammar, path)",
        "goes": "(grammar, path)",
    },
    "callwords.reading": {
        "read": "(grammar, words)",
        "is_open": "(grammar, words, begun)",
        "wanted": "(grammar, words)",
        "reads": "(grammar, words)",
        "shows_reading": "(grammar, words, thing)",
    },
    "callwords.layers": {
        "read_book": "(text)",
        "book_text": "(book)",
        "called": "(grammar, reading, *, room=None, book=None)",
        "layers_of": "(grammar, reading, path, name, *, room=None, book=None)",
        "differing": "(one, other)",
        "call_line": "(grammar, line, *, room=None, book=None)",
    },
    "callwords.writing": {
        "shortest": "(grammar, reading)",
        "is_safe": "(grammar, call, thing, *, rooms=(), books=False)",
        "safe_line": "(grammar, call, *, rooms=(), books=False)",
        "plain": "(grammar, reading)",
        "plain_words": "(grammar, words)",
    },
    "callwords.completing": {
        "known": "(grammar, words, begun)",
        "going_on": "(grammar, line)",
        "in_common": "(grammar, line)",
        "far": "(one, other)",
        "nearest": "(word, words, *, most=2)",
        "meant": "(grammar, words)",
    },
    "callwords.helping": {
        "usage": "(grammar, path)",
        "row_for": "(grammar, path, names)",
        "usage_text": "(grammar, path, row)",
        "page": "(grammar, path, *, width=60)",
        "facts": "(lines)",
        "rows_of": "(grammar, words)",
        "words_for": "(grammar, path, row)",
    },
    "callwords.editions": {
        "changed": "(grammar, changes)",
        "led_reading": "(grammar, changes, reading)",
        "same_call": "(one, other, grammar, changes)",
    },
    "callwords.tables": {
        "table_of": "(grammar, kind)",
    },
    "callwords.comparing": {
        "compared": "(one, other)",
        "normal": "(grammar)",
        "parts_them": "(one, other, thing)",
        "unlike_paths": "(one, other)",
        "idle": "(grammar)",
    },
    "callwords.scripts": {
        "is_log": "(many, thing)",
    },
    "callwords.texts": {
        "grammar_text": "(grammar)",
        "read_grammar": "(text, *, own=None)",
    },
}
# Each class with its methods; arguments behind the object's own.
CLASSES = {
    ("callwords.grammars", "Grammar"): {
        "__init__": "(self, root, *, own=None)",
        "root": "(self)",
        "paths": "(self)",
        "command": "(self, path)",
        "option": "(self, path, name)",
        "place": "(self, path, name)",
        "own_words": "(self, kind)",
        "has_worth": "(self, kind)",
        "with_root": "(self, root)",
        "__eq__": "(self, other)",
        "__len__": "(self)",
    },
    ("callwords.layers", "Call"): {
        "path": "(self)",
        "worths": "(self)",
        "places": "(self)",
        "whence": "(self)",
        "worth": "(self, path, name)",
        "__eq__": "(self, other)",
    },
    ("callwords.editions", "Editions"): {
        "__init__": "(self, grammar)",
        "add": "(self, changes)",
        "__len__": "(self)",
        "grammar": "(self, number)",
        "changes": "(self, number)",
        "led": "(self, words, *, since=0, to)",
        "beginnings": "(self, path, *, since=0, to)",
    },
    ("callwords.scripts", "Script"): {
        "__init__": "(self, grammar, deeds, rows, *, room=None, book=None)",
        "step": "(self)",
        "run": "(self, many=40)",
        "back": "(self, number)",
        "next_row": "(self)",
        "kept": "(self)",
        "became": "(self, number)",
        "log": "(self)",
        "is_over": "(self)",
    },
    ("callwords.desk", "Desk"): {
        "__init__": "(self)",
        "say": "(self, row)",
    },
}


class InterfaceTests(unittest.TestCase):
    """What other programs call."""

    def test_6_arguments_as_written(self):
        for file, names in INTERFACE.items():
            module = importlib.import_module(file)
            for name, arguments in names.items():
                self.assertEqual(str(inspect.signature(getattr(module, name))), arguments, name)

    def test_each_is_defined_in_its_file(self):
        for file, names in INTERFACE.items():
            module = importlib.import_module(file)
            for name in names:
                self.assertTrue(inspect.isfunction(getattr(module, name)))
                self.assertEqual(getattr(module, name).__module__, file, name)

    def test_each_class_is_defined_in_its_file_and_each_method_in_its_class(self):
        for (file, name), methods in CLASSES.items():
            told = getattr(importlib.import_module(file), name)
            self.assertTrue(inspect.isclass(told))
            self.assertEqual(told.__module__, file, name)
            for method, arguments in methods.items():
                self.assertIn(method, vars(told))
                self.assertEqual(str(inspect.signature(vars(told)[method])), arguments, method)

    def test_each_error_is_defined_in_its_file(self):
        errors = importlib.import_module("callwords.errors")
        for name, error in vars(errors).items():
            if inspect.isclass(error):
                self.assertEqual(error.__module__, "callwords.errors", name)

    def test_6_what_stands_behind_a_star_goes_by_name_alone(self):
        kinds = importlib.import_module("callwords.kinds")
        for name in ("is_worth", "word_of", "worth_of", "begins_worth"):
            with self.assertRaises(TypeError):
                getattr(kinds, name)(("own", "a"), "b", ["b"])
        for name in ("known_words", "has_worth"):
            with self.assertRaises(TypeError):
                getattr(kinds, name)(("own", "a"), ["b"])


if __name__ == "__main__":
    unittest.main()
