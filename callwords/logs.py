"""Logs of scripts: whether a list of rows can be one."""

from callwords.errors import NoNumber
from callwords.kinds import is_whole, is_word
from callwords.lines import MOST_WORDS, are_words

MOST_ROWS = 40
ROW_PARTS = {"passed": 2, "begun": 3, "done": 3, "refused": 3, "broke": 2, "back": 2}
ENDS = ("done", "broke")


def could_be_log(many, thing):
    """Whether the thing can be the log of a script of so many rows; refused with NoNumber."""
    if not is_whole(many, 0, MOST_ROWS):
        raise NoNumber(many)
    if not isinstance(thing, (list, tuple)) or not all([_has_row_form(row, many) for row in thing]):
        return False
    return _are_begun_and_ended(thing) and _are_in_order(thing)


def _has_row_form(thing, many):
    """Whether the thing is a row of a log, of one of so many rows."""
    if not isinstance(thing, tuple) or len(thing) < 2 or not isinstance(thing[0], str):
        return False
    word = thing[0]
    if len(thing) != ROW_PARTS.get(word) or not is_whole(thing[1], 0, many - 1):
        return False
    if word == "begun":
        return isinstance(thing[2], tuple) and are_words(thing[2])
    if word == "refused":
        return thing[2] is None or is_whole(thing[2], 0, MOST_WORDS)
    return word != "done" or is_word(thing[2])


def _are_begun_and_ended(rows):
    """Whether each row that is begun is done or broke straight behind, and no other one is."""
    begun = None
    for row in rows:
        if (row[0] in ENDS) != (begun is not None) or (begun is not None and row[1] != begun):
            return False
        begun = row[1] if row[0] == "begun" else None
    return begun is None


def _are_in_order(rows):
    """Whether each row that is gone back to is the last one done, and each other one stands where it may come."""
    done, ahead = [], 0
    for row in rows:
        word, number = row[0], row[1]
        if word == "back":
            if not done or done.pop() != number:
                return False
            ahead = number
        elif word not in ENDS:
            if number > ahead or (done and number <= done[-1]):
                return False
            ahead = number + 1
        elif word == "done":
            done.append(number)
    return True
