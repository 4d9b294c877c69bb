"""The tests' own trying of all short lists of words that two grammars may read unlike: nothing here asks the package."""

import string

from trying import Walk, vocabulary


def tried_words(root, other):
    """All words that may come in one of two grammars, and some that may not."""
    return sorted(set(vocabulary(root)) | set(vocabulary(other)) | {"", "a", "zz", "--", "-"})


def has_joined(walk, word):
    """Whether a Walk looks at a word letter by letter, and it has a sign behind its first letter."""
    free = not walk.closed and walk.waiting is None
    return free and len(word) > 2 and word[0] == "-" and word[1] in string.ascii_lowercase


def told_by(walk):
    """The reading of a Walk, each command's options in Python's order, or None."""
    if walk is None or not walk.is_whole():
        return None
    path, rows, places = walk.reading()
    return path, [sorted(row) for row in rows], places


def further(walk, word):
    """A Walk one word on, or None."""
    if walk is None:
        return None
    new = walk.copy()
    return new if new.take(word) else None


def key_of(walk):
    """All that a Walk is."""
    return repr(walk and (walk.nodes, walk.given, walk.worths, walk.closed, walk.waiting))


def tried_parting(root, other, most, widest=4000):
    """The fewest words of a loose list, of at most so many, that are read unlike, or None; with how far was gone."""
    words, row, seen = tried_words(root, other), [(Walk(root), Walk(other))], set()
    for many in range(most + 1):
        if any(told_by(walk) != told_by(against) for walk, against in row):
            return many, many
        found = []
        if len(row) > widest or many == most:
            return None, many
        for walk, against in row:
            for word in words:
                pair = further(walk, word), further(against, word)
                joined = pair[0] and has_joined(walk, word) or pair[1] and has_joined(against, word)
                key = tuple(key_of(one) for one in pair)
                if not joined and pair != (None, None) and key not in seen:
                    seen.add(key)
                    found.append(pair)
        row = found
    return None, most


def is_loose(root, other, words):
    """Whether a list is loose."""
    for one in (root, other):
        walk = Walk(one)
        for word in words:
            joined = has_joined(walk, word)
            if not walk.take(word):
                break
            if joined:
                return False
    return True
