"""Points 111 to 117: scripts, run, cut amid, and taken back; and their logs."""

import random
import unittest

from callwords.desk import Desk
from callwords.editions import Editions
from callwords.errors import Busy, NoAnswer, NoBook, NoDeeds, NoGrammar, NoLine, NoList, NoNumber, NoRoom, NotThere, Over
from callwords.errors import Stuck, Wrong
from callwords.grammars import Grammar
from callwords.layers import Call, call_line
from callwords.scripts import Script, is_log
from samples import NAME, command, count, flag, one
from things import ANY_THINGS, Refusals

ROOT = command("t", [flag("loud", "l", source="noise")], commands=[
    command("say", [one("to", NAME, need=True, source="who"), count("many", "m", 1)], [("what", ("text", 20), "rest")]),
    command("end"),
])
GRAMMAR = Grammar(ROOT)


def objects():
    """An object of each sort that the package tells or that is made of its classes; none is a def."""
    script = Script(Grammar(command("t")), {(): lambda call, kept: ("a", None)}, ["", "k ="])
    return [GRAMMAR, call_line(GRAMMAR, "end"), Editions(GRAMMAR), script, Desk(), NoAnswer(5), NotThere("a"), Busy(1)]


class Broken(Exception):
    """What deeds break off by."""


class Deeds:
    """Deeds that keep what they were asked, and undos that keep what they took back."""

    def __init__(self, room=None):
        self.asked = []
        self.undone = []
        self.room = {"who": "all"} if room is None else room

    def say(self, call, kept):
        """Answers the first word; breaks off at `break`, has no undo at `fast`, an undo that breaks at `stay`."""
        self.asked.append((call, kept))
        words = dict(call.places())["what"]
        if words == ("break",):
            raise Broken("say")
        answer = words[0] if words else "none"
        return answer, None if answer == "fast" else lambda: self.undo(answer)

    def undo(self, answer):
        """Takes an answer back."""
        if answer == "stay":
            raise Broken("undo")
        self.undone.append(answer)

    def script(self, *rows, **named):
        """A Script of these deeds."""
        deeds = {("say",): self.say, ("end",): lambda call, kept: ("end", lambda: self.undone.append("end"))}
        return Script(GRAMMAR, deeds, rows, room=self.room, **named)


class StepTests(Refusals):
    """Points 111 to 114, 116."""

    def test_113_each_kind_of_log_row(self):
        deeds = Deeds()
        script = deeds.script("", "# say", "say a b", "nosuch", "say 'a", "-l say break", "end")
        self.assert_same(script.step(), [("passed", 0)])
        self.assert_same(script.step(), [("passed", 1)])
        self.assert_same(script.step(), [("begun", 2, ("say", "a", "b")), ("done", 2, "a")])
        self.assert_same(script.step(), [("refused", 3, 0)])
        self.assert_same(script.step(), [("refused", 4, None)])
        with self.assertRaises(Broken):
            script.step()
        self.assert_same(script.log()[-2:], [("begun", 5, ("-l", "say", "break")), ("broke", 5)])
        self.assertEqual((script.next_row(), script.is_over()), (6, False))
        self.assert_same(script.step(), [("begun", 6, ("end",)), ("done", 6, "end")])
        self.assertEqual((script.next_row(), script.is_over()), (7, True))
        self.assert_refused(Over, {"many": 7}, script.step)
        self.assert_same([script.became(number) for number in range(7)],
                         ["passed", "passed", "done", "refused", "refused", "broke", "done"])
        self.assertEqual(len(script.log()), 10)
        self.assertIs(is_log(7, script.log()), True)

    def test_111_no_rows(self):
        for rows in ([], ()):
            script = Script(GRAMMAR, {("say",): len, ("end",): len}, rows)
            self.assertEqual((script.is_over(), script.next_row(), script.log(), script.kept()), (True, 0, [], {}))
            self.assert_refused(Over, {"many": 0}, script.step)
            self.assert_same(script.run(), [])
            self.assertIsNone(script.back(0))

    def test_112_rows_without_words_and_remarks(self):
        rows = ["", " \n ", "#", "  #a = say", "'#' say", "\\#x", "# 'a", "#" + " a" * 40, "a =", "a = #b", "= say", "A = end"]
        script = Deeds().script(*rows)
        script.run(12)
        while not script.is_over():
            script.run()
        became = [script.became(number) for number in range(12)]
        self.assertEqual(became, ["passed"] * 6 + ["refused"] * 6)
        log = {row[1]: row for row in script.log()}
        self.assertEqual([log[number][2] for number in range(6, 12)], [None, None, 0, 0, 0, 0])

    def test_112_kept_words(self):
        deeds = Deeds()
        script = deeds.script("b = say 'x y'", "a = say $b z", "say $a $b $c", "say '$b' \\$ $B $$b $abcdefghi x$b", "b = say $a$b",
                              "c = say $", "say --to=$a", "say --to $b $c")
        self.assertEqual(script.step()[1], ("done", 0, "x y"))
        self.assert_same(script.kept(), {"b": "x y"})
        self.assertEqual(script.step(), [("begun", 1, ("say", "x y", "z")), ("done", 1, "x y")])
        self.assertEqual(list(script.kept().items()), [("a", "x y"), ("b", "x y")])
        self.assertEqual(script.step(), [("refused", 2, None)])
        self.assertEqual(script.step()[0], ("begun", 3, ("say", "x y", "$", "$B", "$$b", "$abcdefghi", "x$b")))
        self.assertEqual(script.step()[0], ("begun", 4, ("say", "$a$b")))
        self.assertEqual(list(script.kept().items()), [("a", "x y"), ("b", "$a$b")])
        self.assertEqual(script.step()[1], ("done", 5, "$"))
        self.assertEqual(script.step(), [("refused", 6, 1)])
        self.assertEqual(script.step(), [("refused", 7, 2)])
        self.assertEqual([kept for _, kept in deeds.asked][:3], [{}, {"b": "x y"}, {"a": "x y", "b": "x y"}])
        self.assertEqual([list(kept) for _, kept in deeds.asked][2], ["a", "b"])

    def test_112_a_lacking_name_goes_ahead_of_reading(self):
        script = Deeds().script("nosuch $a", "$a = end", "a = b = end")
        self.assertEqual([row for _ in range(3) for row in script.step()], [
            ("refused", 0, None), ("refused", 1, None), ("refused", 2, 0)])

    def test_112_forty_words_name_and_sign_counted(self):
        script = Deeds().script("say" + " a" * 30, "k = say" + " a" * 30, "say" + " a" * 40, "k = say" + " a" * 38)
        became = []
        for _ in range(4):
            became.append(script.step()[0][0])
        self.assertEqual(became, ["begun", "begun", "refused", "refused"])
        self.assertEqual([row for row in script.log() if row[0] == "refused"], [("refused", 2, None), ("refused", 3, None)])

    def test_112_layers(self):
        deeds = Deeds(room={"who": "bob", "noise": "yes"})
        script = deeds.script("say --to ann x", "say y", "--no-l say", book={(("say",), "many"): ("3",)})
        script.run()
        calls = [call for call, _ in deeds.asked]
        self.assertTrue(all(isinstance(call, Call) for call in calls))
        for call, line in zip(calls, ["say --to ann x", "say y", "--no-l say"]):
            self.assertEqual(call, call_line(GRAMMAR, line, room=deeds.room, book={(("say",), "many"): ("3",)}))
        self.assertEqual([call.worth(("say",), "to") for call in calls], ["ann", "bob", "bob"])
        script = Deeds(room={}).script("say", "end", "say --to=a")
        self.assertEqual([script.step()[0] for _ in range(3)], [
            ("refused", 0, None), ("begun", 1, ("end",)), ("begun", 2, ("say", "--to=a"))])
        script = Deeds(room={"who": "No"}).script("say", "end")
        self.assertEqual([script.step()[0][0] for _ in range(2)], ["refused", "begun"])
        script = Deeds().script("end", book={((), "nosuch"): ()})
        self.assertEqual(script.step(), [("refused", 0, None)])

    def test_113_a_deed_that_tells_no_such_tuple(self):
        for told in [thing for thing in ANY_THINGS if thing != ("a", None)] + [("a",), ("a" * 41, None), (5, None), ("a", 5), ("a", "b"), ("a", None, None),
                                                     ["a", None], ("a", ()), ("a", {}), ("a", True), (None, None), ("\n", None)]:
            script = Script(GRAMMAR, {("say",): len, ("end",): lambda call, kept: told}, ["k = end", "end"])
            with self.assertRaises(NoAnswer) as caught:
                script.step()
            self.assertIs(caught.exception.found, told)
            self.assertEqual(script.log(), [("begun", 0, ("end",)), ("broke", 0)])
            self.assertEqual((script.next_row(), script.became(0), script.kept()), (1, "broke", {}))
            self.assertIsNone(script.back(0))

    def test_113_an_object_in_the_place_of_the_undo_or_the_answer(self):
        for thing in objects():
            for told in [("a", thing), (thing, None), (thing, lambda: None), thing, ("a", (thing,)), ("a", [thing])]:
                script = Script(GRAMMAR, {("say",): len, ("end",): lambda call, kept: told}, ["k = end", "# next"])
                self.assert_refuses_found(NoAnswer, told, script.step)
                self.assertEqual(script.log(), [("begun", 0, ("end",)), ("broke", 0)])
                self.assertEqual((script.next_row(), script.became(0), script.kept()), (1, "broke", {}))
                self.assertEqual(script.step(), [("passed", 1)])
                self.assertIsNone(script.back(0))

    def test_111_an_object_in_the_place_of_a_deed(self):
        for thing in objects():
            for deeds in [{("say",): len, ("end",): thing}, {("say",): len, ("end",): len, ("nosuch",): thing}]:
                self.assert_refuses_found(NoDeeds, deeds, Script, GRAMMAR, deeds, None)

    def test_113_with_and_without_an_undo(self):
        answers = iter([("", None), ("a" * 40, lambda: None), ("b", Deeds().say)])
        script = Script(GRAMMAR, {("say",): len, ("end",): lambda call, kept: next(answers)}, ["a = end"] * 3)
        self.assertEqual([row[2] for row in script.run() if row[0] == "done"], ["", "a" * 40, "b"])

    def test_114_runs(self):
        rows = ["end", "", "say a", "nosuch", "# x", "say b", "say break", "end", "end"]
        deeds = Deeds()
        script = deeds.script(*rows)
        self.assert_same(script.run(0), [])
        self.assert_same(script.run(2), [("begun", 0, ("end",)), ("done", 0, "end"), ("passed", 1)])
        self.assert_same(script.run(), [("begun", 2, ("say", "a")), ("done", 2, "a"), ("refused", 3, 0)])
        with self.assertRaises(Broken):
            script.run(40)
        self.assertEqual(script.log()[-5:], [("passed", 4), ("begun", 5, ("say", "b")), ("done", 5, "b"),
                                             ("begun", 6, ("say", "break")), ("broke", 6)])
        self.assert_same(script.run(many=1), [("begun", 7, ("end",)), ("done", 7, "end")])
        self.assertEqual(len(script.run(40)), 2)
        self.assert_same(script.run(), [])
        self.assert_same(script.run(40), [])
        script = Deeds().script(*["end"] * 40)
        self.assertEqual(len(script.run(39)), 78)
        self.assertEqual(len(script.run()), 2)
        for thing in [-1, 41, True, None, "1", [], 10 ** 29]:
            self.assert_refuses_found(NoNumber, thing, script.run, thing)

    def test_116_told_anew(self):
        script = Deeds().script("a = end", "nosuch")
        told = script.run()
        told.append("x")
        script.log().append("x")
        script.kept()["b"] = "x"
        self.assertEqual((len(script.log()), script.kept()), (3, {"a": "end"}))
        self.assertIsNone(Deeds().script("end").became(0))
        for thing in [-1, 2, True, None, "0", [0], 10 ** 29]:
            self.assert_refuses_found(NotThere, thing, script.became, thing)
        self.assertEqual(script.became(number=1), "refused")

    def test_116_a_kept_dict_that_a_deed_changes(self):
        def spoil(call, kept):
            kept["a"] = "spoilt"
            return "x", None
        script = Script(GRAMMAR, {("say",): len, ("end",): spoil}, ["b = end", "c = end"])
        script.run()
        self.assertEqual(script.kept(), {"b": "x", "c": "x"})

    def test_111_lists_and_dicts_are_kept_as_copies(self):
        deeds, rows, room, book = {("say",): Deeds().say, ("end",): Deeds().say}, ["say a"], {"who": "ann"}, {}
        script = Script(grammar=GRAMMAR, deeds=deeds, rows=rows, room=room, book=book)
        deeds.clear()
        rows.clear()
        room.clear()
        book[((), "nosuch")] = ()
        self.assertEqual(script.run(), [("begun", 0, ("say", "a")), ("done", 0, "a")])

    def test_111_refused(self):
        good = {("say",): len, ("end",): len}
        for thing in [None, True, ROOT, {}]:
            self.assert_refuses_found(NoGrammar, thing, Script, thing, None, None, room=5, book=5)
        for thing in [None, True, 5, "a", [], (), {"say": len}, {("Say",): len}, {(5,): len}, {5: len}, {("say",): 5},
                      {("say",): None}, {("say",): "len"}, {None: len}]:
            self.assert_refuses_found(NoDeeds, thing, Script, GRAMMAR, thing, None, room=5, book=5)
        for thing in [None, True, 5, "end", {}, ["end"] * 41]:
            self.assert_refuses_found(NoList, thing, Script, GRAMMAR, good, thing, room=5, book=5)
        for thing in [None, True, 5, "a" * 2001, "\u00e9", ["end"]]:
            self.assert_refuses_found(NoLine, thing, Script, GRAMMAR, good, ["end", thing, None], room=5, book=5)
        for thing in [True, 5, "a", [], {"A": "b"}, {"a": 5}]:
            self.assert_refuses_found(NoRoom, thing, Script, GRAMMAR, {}, ["end"], room=thing, book=5)
            self.assert_refuses_found(NoBook, thing, Script, GRAMMAR, {}, ["end"], book=thing)
        for deeds, path in [({}, ("say",)), ({("say",): len}, ("end",)), ({("say",): len, (): len, ("t",): len}, ("end",))]:
            with self.assertRaises(NotThere) as caught:
                Script(GRAMMAR, deeds, ["'"])
            self.assert_same(caught.exception.found, path)
        Script(GRAMMAR, {**good, (): len, ("no", "such"): len}, ["end"] * 40, room=None, book=None)
        bare = Grammar(command("t"))
        self.assertRaises(NotThere, Script, bare, {}, [])
        self.assertEqual(Script(bare, {(): lambda call, kept: ("a", None)}, ["", "k ="]).run(), [
            ("passed", 0), ("begun", 1, ()), ("done", 1, "a")])


class BackTests(Refusals):
    """Point 115, and Busy of 116."""

    def test_115_taken_back_to_each_number(self):
        rows = ["a = say x", "nosuch", "b = say y", "# z", "a = say z", "say break", "end"]
        for number in range(8):
            deeds = Deeds()
            script = deeds.script(*rows)
            kepts = []
            while not script.is_over():
                kepts.append(script.kept())
                try:
                    script.step()
                except Broken:
                    pass
            kepts.append(script.kept())
            before = script.log()
            self.assertIsNone(script.back(number))
            done = [(6, "end"), (4, "z"), (2, "y"), (0, "x")]
            self.assertEqual(deeds.undone, [answer for at, answer in done if at >= number])
            self.assertEqual(script.log(), before + [("back", at) for at, _ in done if at >= number])
            self.assertEqual((script.next_row(), script.kept(), script.is_over()), (number, kepts[number], number == 7))
            self.assertEqual([script.became(at) for at in range(7)], [
                "back" if at >= number and at in (0, 2, 4, 6) else word
                for at, word in enumerate(["done", "refused", "done", "passed", "done", "broke", "done"])])
            self.assertIs(is_log(7, script.log()), True)
            if number not in (5, 7):
                self.assertEqual(script.step()[0][1], number)

    def test_115_done_again(self):
        deeds = Deeds()
        script = deeds.script("a = say x", "b = say $a", "end")
        script.run(2)
        script.back(1)
        self.assertEqual(script.kept(), {"a": "x"})
        self.assertEqual(script.run(), [("begun", 1, ("say", "x")), ("done", 1, "x"), ("begun", 2, ("end",)), ("done", 2, "end")])
        script.back(number=0)
        self.assertEqual((deeds.undone, script.kept(), script.next_row()), (["x", "end", "x", "x"], {}, 0))
        script.back(0)
        self.assertEqual(len(deeds.undone), 4)
        self.assertEqual([script.became(number) for number in range(3)], ["back"] * 3)
        script.run(1)
        self.assertEqual([script.became(number) for number in range(3)], ["done", "back", "back"])

    def test_115_stuck(self):
        deeds = Deeds()
        script = deeds.script("say x", "say fast", "say y", "say fast", "say z")
        script.run()
        log = script.log()
        for number, at in [(0, 3), (1, 3), (2, 3), (3, 3)]:
            self.assert_refused(Stuck, {"at": at}, script.back, number)
        self.assertEqual((script.log(), deeds.undone, script.next_row()), (log, [], 5))
        script.back(4)
        self.assertEqual((deeds.undone, script.next_row()), (["z"], 4))
        self.assert_refused(Stuck, {"at": 3}, script.back, 0)

    def test_115_an_undo_that_breaks_off(self):
        deeds = Deeds()
        script = deeds.script("a = say x", "b = say stay", "c = say y", "nosuch", "d = say z")
        while not script.is_over():
            script.step()
        with self.assertRaises(Broken):
            script.back(0)
        self.assertEqual(deeds.undone, ["z", "y"])
        self.assertEqual(script.log()[-2:], [("back", 4), ("back", 2)])
        self.assertEqual((script.next_row(), script.kept()), (2, {"a": "x", "b": "stay"}))
        self.assertEqual(script.became(1), "done")
        self.assertIs(is_log(5, script.log()), True)
        with self.assertRaises(Broken):
            script.back(1)
        self.assertEqual((script.next_row(), script.kept(), deeds.undone), (2, {"a": "x", "b": "stay"}, ["z", "y"]))
        self.assertEqual(script.step(), [("begun", 2, ("say", "y")), ("done", 2, "y")])
        self.assertIs(is_log(5, script.log()), True)

    def test_115_refused(self):
        script = Deeds().script("say fast", "end")
        script.step()
        for thing in [-1, 2, True, None, "0", [], 10 ** 29]:
            self.assert_refuses_found(NoNumber, thing, script.back, thing)
        script.back(1)

    def test_116_busy_from_within_a_deed_and_an_undo(self):
        script, seen = None, []

        def look(*told):
            for ask, fields in [(lambda: script.step(), Busy), (lambda: script.run(1), Busy), (lambda: script.run(0), Busy),
                                (lambda: script.back(0), Busy), (lambda: script.run(41), NoNumber),
                                (lambda: script.back(-1), NoNumber), (lambda: script.back(True), NoNumber)]:
                with self.assertRaises(fields) as caught:
                    ask()
                if fields is Busy:
                    seen.append(caught.exception.at)
            seen.append((script.log()[-1][0], script.became(0)))
            return "x", look
        script = Script(GRAMMAR, {("say",): look, ("end",): look}, ["", "end", "end"])
        script.run()
        self.assertEqual(seen, [1] * 4 + [("begun", "passed")] + [2] * 4 + [("begun", "passed")])
        seen.clear()
        script.back(0)
        self.assertEqual(seen, [2] * 4 + [("done", "passed")] + [1] * 4 + [("back", "passed")])
        self.assertEqual(script.next_row(), 0)

    def test_116_what_a_row_became_while_its_deed_is_asked(self):
        seen = []

        def look(call, kept):
            seen.append((script.became(0), script.became(1), script.log()[-1][0], script.kept()))
            return "x", lambda: seen.append((script.became(0), script.became(1)))
        script = Script(GRAMMAR, {("say",): look, ("end",): look}, ["a = end", "b = end"])
        script.run()
        script.back(1)
        script.run()
        self.assertEqual(seen, [(None, None, "begun", {}), ("done", None, "begun", {"a": "x"}), ("done", "done"),
                                ("done", "back", "begun", {"a": "x"})])

    def test_116_open_again_behind_an_error(self):
        deeds = Deeds()
        script = deeds.script("say break", "say stay", "end")
        self.assertRaises(Broken, script.step)
        script.step()
        self.assertRaises(Broken, script.back, 0)
        self.assertEqual(script.step()[1], ("done", 2, "end"))
        nested = Script(GRAMMAR, {("say",): len, ("end",): lambda call, kept: script.back(2) or ("y", None)}, ["end"])
        self.assertEqual(nested.step()[1], ("done", 0, "y"))


def tried_log(many, thing):
    """Whether a list of rows, each of a log's forms, keeps the rules, by going through it with a list of what may come."""
    if not isinstance(thing, (list, tuple)):
        return False
    done, ahead, begun = [], 0, None
    for row in thing:
        if not isinstance(row, tuple) or not row or row[0] not in ("passed", "begun", "done", "refused", "broke", "back"):
            return False
        word, fields = row[0], row[1:]
        if len(fields) != (1 if word in ("passed", "broke", "back") else 2) or type(fields[0]) is not int:
            return False
        at = fields[0]
        if not 0 <= at < many or begun is not None and (word not in ("done", "broke") or at != begun):
            return False
        if word in ("done", "broke"):
            if begun is None or word == "done" and not (isinstance(fields[1], str) and len(fields[1]) < 41):
                return False
            begun = None
            done += [at] if word == "done" else []
        elif word == "back":
            if done[-1:] != [at]:
                return False
            ahead = done.pop()
        else:
            if not (done or [-1])[-1] < at <= ahead:
                return False
            ahead, begun = at + 1, at if word == "begun" else None
            if word == "begun" and not isinstance(fields[1], tuple):
                return False
            if word == "refused" and not (fields[1] is None or type(fields[1]) is int and 0 <= fields[1] <= 40):
                return False
    return begun is None


class LogTests(Refusals):
    """Point 117."""

    def ran(self, number):
        """A Script, run and taken back by chance; each log behind each step and way back can be one."""
        chance, deeds = random.Random(number), Deeds()
        rows = [chance.choice(["", "#", "end", "say a", "k = say b", "nosuch", "say break", "say stay", "say fast", "say $k", "'"])
                for _ in range(chance.randint(1, 6))]
        script = deeds.script(*rows)
        for _ in range(chance.randint(1, 12)):
            try:
                if chance.random() < 0.35:
                    script.back(chance.randint(0, script.next_row()))
                else:
                    script.run(chance.randint(1, 2))
            except (Broken, Stuck):
                pass
            self.assertIs(is_log(len(rows), script.log()), True, script.log())
        return chance, len(rows), script.log()

    def test_117_each_log_that_a_script_tells(self):
        for number in range(11700, 11900):
            _, many, log = self.ran(number)
            self.assertIs(is_log(many, tuple(log)), True)
            self.assertIs(is_log(40, log), True)
            self.assertTrue(tried_log(many, log))
            if log:
                self.assertIs(is_log(max(row[1] for row in log), log), False)

    def test_117_one_row_otherwise(self):
        seen = [0, 0]
        for number in range(11700, 12100):
            chance, many, log = self.ran(number)
            for _ in range(6 if log else 0):
                thing, at, how = list(log), chance.randrange(len(log)), chance.randint(0, 4)
                if how == 0:
                    del thing[at]
                elif how == 1:
                    thing.insert(chance.randint(0, len(log)), chance.choice(log))
                elif how == 2:
                    other = chance.randrange(len(log))
                    thing[at], thing[other] = thing[other], thing[at]
                elif how == 3:
                    thing[at] = thing[at][:1] + (thing[at][1] + chance.choice([-1, 1]),) + thing[at][2:]
                else:
                    thing[at] = chance.choice([("passed", at), ("back", at), ("broke", at), ("refused", at, None), ("done", at, "")])
                wants = tried_log(many, thing)
                seen[wants] += 1
                self.assertIs(is_log(many, thing), wants, (many, thing))
        self.assertTrue(min(seen) > 100, seen)

    def test_117_forms(self):
        begun = ("begun", 0, ("end",))
        for log, can in [
            ([], True), ((), True), ([("passed", 0)], True), ([("passed", 1)], False), ([("refused", 0, None)], True),
            ([("refused", 0, 40)], True), ([("refused", 0, 41)], False), ([("refused", 0, True)], False), ([("refused", 0)], False),
            ([("refused", 0, -1)], False), ([begun], False), ([begun, ("done", 0, "a")], True), ([begun, ("broke", 0)], True),
            ([("done", 0, "a")], False), ([("broke", 0)], False), ([begun, ("done", 1, "a")], False), ([begun, begun], False),
            ([begun, ("passed", 0)], False), ([begun, ("done", 0, "a" * 41)], False), ([begun, ("done", 0, None)], False),
            ([("begun", 0, ["end"]), ("broke", 0)], False), ([("begun", 0, ("a" * 41,)), ("broke", 0)], False),
            ([("begun", 0, ("a",) * 40), ("broke", 0)], True), ([("begun", 0, ("a",) * 41), ("broke", 0)], False),
            ([("begun", 0, ()), ("broke", 0)], True), ([begun, ("done", 0, "a"), ("back", 0)], True), ([("back", 0)], False),
            ([begun, ("broke", 0), ("back", 0)], False), ([begun, ("done", 0, "a"), ("back", 0), ("back", 0)], False),
            ([("passed", 0), ("passed", 0)], True), ([("passed", 0), ("passed", 1), ("passed", 0), ("passed", 2)], False),
            ([begun, ("done", 0, "a"), ("passed", 0)], False), ([begun, ("done", 0, "a"), ("back", 0), ("passed", 1)], False),
            ([["passed", 0]], False), ([("passed", True)], False), ([("passed", 0, 0)], False), ([("Passed", 0)], False),
            ([("passed",)], False), ([()], False), ([None], False), ([(None, 0)], False), ([([], 0)], False), ({}, False),
        ]:
            self.assertIs(is_log(3, log), can, log)
        self.assertIs(is_log(many=0, thing=[]), True)
        self.assertIs(is_log(0, [("passed", 0)]), False)
        for thing in ANY_THINGS:
            self.assertIs(is_log(40, thing), thing in ([], ()) and isinstance(thing, (list, tuple)))
        for thing in [-1, 41, True, None, "0", [], 10 ** 29]:
            self.assert_refuses_found(NoNumber, thing, is_log, thing, None)

    def test_113_what_is_refused_by_reading(self):
        script = Deeds().script("-l say a -x", "say --to")
        for _ in range(2):
            told = script.step()
            words = [("-l", "say", "a", "-x"), ("say", "--to")][told[0][1]]
            with self.assertRaises(Wrong) as caught:
                call_line(GRAMMAR, " ".join(words))
            self.assert_same(told[0][2], caught.exception.at)


if __name__ == "__main__":
    unittest.main()
