"""Point 9 over the whole program: its parts held against one another, and names with other letters."""

import random
import unittest

from callwords.comparing import compared, idle, normal, parts_them, unlike_paths
from callwords.completing import in_common, known, meant
from callwords.desk import Desk
from callwords.editions import Editions, changed
from callwords.errors import Gone, Lacks, NoWay, Reads, Unfit, Wrong
from callwords.grammars import Grammar, command_words, option_words, sets
from callwords.helping import facts, page, row_for, rows_of, usage, words_for
from callwords.layers import call_line, called
from callwords.lines import joined
from callwords.reading import is_open, read, reads, wanted
from callwords.scripts import Script, is_log
from callwords.texts import grammar_text, read_grammar
from callwords.writing import plain_words, safe_line, shortest
from changing import made_change, small_grammar
from samples import COLOR, NAME, OWN, OWN_WORDS, SMALL_KINDS, led, made, put_otherwise
from test_editions import fitting_changes
from things import Refusals
from trying import Walk, is_live, tried_reading, vocabulary

SWAP = str.maketrans("abcdefghijklmpqrstuvwxyz", "zyxwvutsrqpmlkjihgfedcba")
KINDS = SMALL_KINDS + [COLOR, NAME]
SWAPPED_OWN = {name.translate(SWAP): (lambda words=words: [word.translate(SWAP) for word in words])
               for name, words in OWN_WORDS.items()}


def swapped(thing):
    """The thing with other letters in all its texts."""
    if isinstance(thing, str):
        return thing.translate(SWAP)
    if isinstance(thing, dict):
        return {swapped(key): swapped(thing[key]) for key in thing}
    return type(thing)([swapped(part) for part in thing]) if isinstance(thing, (list, tuple)) else thing


def swapped_kind(kind):
    """A kind with other letters in its names."""
    return kind and kind[:1] + swapped(kind[1:])


def swapped_root(root):
    """A root with other letters in its names."""
    name, options, places, groups, commands = root
    options = tuple((swapped(name), swapped(short), form, swapped_kind(kind), swapped(default), need, swapped(source))
                    for name, short, form, kind, default, need, source in options)
    places = tuple((swapped(name), swapped_kind(kind), times) for name, kind, times in places)
    groups = tuple((word, swapped(names)) for word, names in groups)
    return swapped(name), options, places, groups, tuple(swapped_root(below) for below in commands)


def swapped_wants(wants):
    """Wanted words and kinds with other letters."""
    return [swapped(thing) if isinstance(thing, str) else swapped_kind(thing) for thing in wants]


class LettersTests(Refusals):
    """Names with other letters."""

    def grammars(self, numbers, levels):
        """Grammars with the ones of other letters, and chances."""
        for number in numbers:
            root = made(number, most=3, kinds=KINDS, levels=levels)
            yield random.Random(number), Grammar(root, own=OWN), Grammar(swapped_root(root), own=SWAPPED_OWN)

    def test_9_reading_completing_writing(self):
        for chance, told, other in self.grammars(range(20000, 20040), 1):
            for _ in range(4):
                words = led(chance, told.root(), 5, vocabulary(told.root()), Walk(told.root()), is_live)
                words = put_otherwise(chance, words) if chance.random() < 0.4 else words
                away = swapped(words)
                self.assertEqual(wanted(other, away), swapped_wants(wanted(told, words)))
                self.assertEqual(known(other, away, ""), swapped(known(told, words, "")))
                self.assertEqual(len(in_common(other, joined(away) + " ")), len(in_common(told, joined(words) + " ")))
                if reads(told, words):
                    reading = read(told, words)
                    self.assertEqual(read(other, away), swapped(reading))
                    self.assertEqual(plain_words(other, away), swapped(plain_words(told, words)))
                    self.assertEqual([len(word) for word in shortest(other, swapped(reading))],
                                     [len(word) for word in shortest(told, reading)])
                    self.assertEqual(rows_of(other, away), swapped(rows_of(told, words)))
                    self.assertRaises(Reads, meant, other, away)
                    continue
                self.assertEqual(meant(other, away), swapped(meant(told, words)))
                at, sign, wants = self.wrong(told, words)
                self.assertEqual(self.wrong(other, away), (at, sign, tuple(swapped_wants(wants))))

    def wrong(self, told, words):
        """The fields with which words are refused."""
        with self.assertRaises(Wrong) as caught:
            read(told, words)
        return caught.exception.at, caught.exception.sign, caught.exception.words

    def test_9_sets_help_comparing(self):
        for chance, told, other in self.grammars(range(20100, 20160), 2):
            for path in told.paths():
                away = swapped(path)
                self.assertEqual(sets(other, away), swapped(sets(told, path)))
                self.assertEqual(usage(other, away), swapped(usage(told, path)))
                self.assertEqual(len(page(other, away, width=40)), len(page(told, path, width=40)))
                self.assertEqual(command_words(other, away), swapped(command_words(told, path)))
                for row in usage(told, path):
                    words = words_for(told, path, row)
                    self.assertEqual(words_for(other, away, swapped(row)) is None, words is None)
                    self.assertEqual(words is None or len(words_for(other, away, swapped(row))), words is None or len(words))
            out, further = idle(told)
            self.assertEqual(idle(other)[0], swapped(out))
            away = [(swapped(path), word, swapped(text), swapped(name)) for path, word, text, name in further]
            self.assertEqual(sorted(idle(other)[1]), sorted(away))
            self.assertEqual(len(normal(other)), len(normal(told)))
            self.assertEqual(compared(told, other)[0] == "alike", normal(told) == normal(other))

    def test_9_comparing_and_editions(self):
        for number in range(20200, 20300):
            chance = random.Random(number)
            told = small_grammar(chance, made, number)
            other = Grammar(swapped_root(told.root()), own=SWAPPED_OWN)
            changes = fitting_changes(chance, told, 2)
            newer = changed(told, changes)
            away = Grammar(swapped_root(newer.root()), own=SWAPPED_OWN)
            found, beside = compared(told, newer), compared(other, away)
            self.assertEqual((found[0], len(found[-1])), (beside[0], len(beside[-1])))
            self.assertEqual(sorted(swapped(unlike_paths(told, newer))), unlike_paths(other, away))
            if found[0] == "parted":
                self.assertIs(parts_them(other, away, swapped(found[1])), True)


class PartsTests(Refusals):
    """Parts of the program held against one another."""

    def test_9_help_completion_and_reading(self):
        for number in range(20300, 20340):
            root, chance = made(number, most=3, kinds=KINDS, levels=1), random.Random(number)
            told = Grammar(root, own=OWN)
            for path in told.paths():
                lines = facts(page(told, path))
                for row in usage(told, path):
                    words = words_for(told, path, row)
                    if words is not None:
                        self.assertIn((path, row_for(told, path, row[0])), rows_of(told, words))
                shown = {line.split(":")[0] for line in lines if ": " in line}
                standing = {name for found in sets(told, path) for name in found}
                flags = {option[0] for option in told.command(path)[1] if option[2] == "flag"}
                self.assertEqual(shown, standing | flags | {place[0] for place in told.command(path)[2]})
                beneath = {below[0] for below in told.command(path)[4]}
                names = {line.split()[1] for line in lines if line.startswith("command ")}
                self.assertEqual(names & beneath, names)
                if is_open(told, list(path), ""):
                    self.assertTrue(set(known(told, list(path), "")) & beneath <= names)
            for _ in range(5):
                words = led(chance, root, 5, vocabulary(root), Walk(root), is_live)
                for word in known(told, words, ""):
                    self.assertTrue(is_open(told, words, word))
                    self.assertTrue(reads(told, words + [word]) or wanted(told, words + [word]))
                if tried_reading(root, words):
                    for (path, row), given in zip(rows_of(told, words), read(told, words)[1]):
                        on = {name for name, worth in given if told.option(path, name)[2] != "flag" or worth}
                        self.assertTrue(set(row[0]) <= on <= set(row[0] + row[1]))

    def test_9_a_shortened_word_reads_while_it_is_the_only_one(self):
        for number in range(20400, 20430):
            told = Grammar(made(number), own=OWN)
            for path in told.paths():
                names = [option[0] for option in told.command(path)[1]]
                found = option_words(told, path)
                for name in names:
                    for end in range(1, len(name) + 1):
                        text = name[:end]
                        only = [one for one in names if one.startswith(text)] == [name] or text == name
                        self.assertEqual(found.get(text) == name, only)

    def test_9_elder_lines_over_texts_and_editions(self):
        seen = 0
        for number in range(20500, 20700):
            chance = random.Random(number)
            told = small_grammar(chance, made, number)
            editions, beside = Editions(told), Editions(read_grammar(grammar_text(told), own=OWN))
            for _ in range(2):
                changes = fitting_changes(chance, editions.grammar(len(editions) - 1), 2)
                editions.add(changes)
                beside.add(changes)
            newest = read_grammar(grammar_text(editions.grammar(2)), own=OWN)
            self.assertEqual(newest, beside.grammar(2))
            words = led(chance, told.root(), 5, vocabulary(told.root()), Walk(told.root()), is_live)
            if tried_reading(told.root(), words) is None:
                continue
            found = outcome(lambda: editions.led(words, to=2))
            self.assertEqual(found, outcome(lambda: beside.led(words, to=2)))
            if found[0] in ("same", "mended"):
                seen += 1
                self.assertTrue(reads(newest, found[1]))
                self.assertEqual(compared(newest, editions.grammar(2)), ("alike",))
        self.assertTrue(seen > 20)

    def test_9_scripts_of_safe_lines(self):
        for number in range(20700, 20760):
            root, chance = made(number, most=2, kinds=KINDS, levels=1), random.Random(number)
            told = Grammar(root, own=OWN)
            rows, calls = [], []
            for _ in range(4):
                words = led(chance, root, 5, vocabulary(root), Walk(root), is_live)
                if tried_reading(root, words) is not None:
                    try:
                        call = called(told, read(told, words))
                        rows.append(joined(safe_line(told, call)))
                    except (Lacks, NoWay):
                        continue
                    calls.append(call)
            if not rows or any(row.startswith(("#", "'#", "\\#")) or " = " in row or "$" in row or row == "" for row in rows):
                continue
            done = []

            def deed(call, kept):
                done.append(call)
                return "done", done.pop
            deeds = {path: deed for path in told.paths() if not told.command(path)[4]}
            script = Script(told, deeds, rows)
            script.run(chance.randint(0, 4))
            self.assertEqual(done, calls[:script.next_row()])
            script.run()
            self.assertEqual(done, calls)
            number = chance.randint(0, len(rows))
            script.back(number)
            self.assertEqual(done, calls[:number])
            self.assertIs(is_log(len(rows), script.log()), True)

    def test_9_a_desk_and_the_stages(self):
        for number in range(20800, 20830):
            root, chance = made(number, most=2, kinds=[NAME, COLOR, ("text", 3), ("number", 0, 5)], levels=1), random.Random(number)
            told, desk = Grammar(root), Desk()
            desk.say("grammar " + grammar_text(told).replace("\n", ";"))
            words = led(chance, root, 5, vocabulary(root), Walk(root), is_live)
            if tried_reading(root, words) is None:
                continue
            line = joined(words)
            self.assertEqual(desk.say("read " + line), joined(plain_words(told, words)))
            try:
                call = call_line(told, line)
                self.assertEqual(desk.say("write " + line), joined(safe_line(told, call)))
                self.assertTrue(desk.say("call " + line).startswith("/" + "/".join(call.path())))
            except (Lacks, NoWay):
                pass

    def test_9_changes_that_do_nothing_to_lists(self):
        for number in range(20900, 20960):
            chance = random.Random(number)
            told = small_grammar(chance, made, number)
            for _ in range(10):
                change = made_change(chance, told)
                if change[0] == "default":
                    try:
                        newer = changed(told, [change])
                    except (Unfit, KeyError):
                        continue
                    self.assertEqual(compared(told, newer), ("alike",))


def outcome(ask):
    """What is told, or the refusal's class and fields."""
    try:
        return ask()
    except (Gone, NoWay) as refusal:
        return type(refusal), vars(refusal)


if __name__ == "__main__":
    unittest.main()
