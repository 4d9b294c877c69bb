"""The tests' own searches for short lists of words: nothing here asks the package but how a word is quoted."""

import functools
import heapq
import itertools

from callwords.lines import quoted
from trying import Walk, begun_names, tried_sets


def length_of(words):
    """How many words, then how many signs their quoted line has, a blank counted for each word."""
    return len(words), sum(len(quoted(word)) + 1 for word in words)


def texts_of(worth):
    """The words of a worth, or of a tuple of worths."""
    return [str(part) for part in worth] if isinstance(worth, tuple) else [str(worth)]


def heads_of(option, names):
    """All words that name an option."""
    return ["--" + text for text, name in begun_names(names).items() if name == option[0]]


def useful_words(root, reading):
    """All words that a list which reads to a reading may have, letters of one word in one order alone."""
    path, rows, places = reading
    node, words = root, {"--"}
    for level, row in enumerate(rows):
        options = {option[0]: option for option in node[1]}
        letters, tails = "", [""]
        for name, worth in row:
            option = options[name]
            if option[2] == "flag" and worth == 0:
                flags = [other[0] for other in node[1] if other[2] == "flag"]
                words.update("--no-" + text for text, found in begun_names(flags).items() if found == name)
            elif option[3] is None:
                words.update(heads_of(option, list(options)))
                letters += (option[1] or "") * worth
            else:
                heads = heads_of(option, list(options))
                words.update(heads + texts_of(worth))
                words.update(head + "=" + text for head in heads for text in texts_of(worth))
                tails += [option[1] + text for text in texts_of(worth) + [""]] if option[1] else []
        clusters = {cluster for many in range(len(letters) + 1) for cluster in itertools.combinations(letters, many)}
        words.update("-" + "".join(cluster) + tail for cluster in clusters for tail in tails if cluster or tail)
        if level < len(path):
            beneath = {below[0]: below for below in node[4]}
            words.update(text for text, found in begun_names(list(beneath)).items() if found == path[level])
            node = beneath[path[level]]
    for _, worth in places:
        words.update(texts_of(worth))
    return sorted(word for word in words if len(word) <= 40)


def is_on_the_way(walk, reading):
    """Whether a Walk has given nothing that the reading hasn't."""
    path, rows, _ = reading
    if tuple(node[0] for node in walk.nodes[1:]) != path[:len(walk.nodes) - 1]:
        return False
    for level, given in enumerate(walk.given):
        row = dict(rows[level])
        for name, worths in given.items():
            form = [option[2] for option in walk.nodes[level][1] if option[0] == name][0]
            worth = row.get(name)
            wanted = {"count": [1] * worth if form == "count" and worth else [], "many": worth}.get(form, [worth])
            if worth is None or list(wanted)[:len(worths)] != worths:
                return False
    return True


@functools.lru_cache(maxsize=None)
def tried_shortest(root, reading):
    """How long the shortest list that reads to a reading is, by going through all lists, the shortest ahead."""
    words = [(word, length_of([word])[1]) for word in useful_words(root, reading)]
    coming, seen, number = [((0, 0), 0, Walk(root))], set(), 0
    while coming:
        (many, signs), _, walk = heapq.heappop(coming)
        key = repr((walk.given, walk.worths, walk.closed, walk.waiting, len(walk.nodes)))
        if key in seen:
            continue
        seen.add(key)
        if walk.is_whole() and walk.reading() == reading:
            return many, signs
        for word, more in words:
            further = walk.copy()
            if further.take(word) and is_on_the_way(further, reading):
                number += 1
                heapq.heappush(coming, ((many + 1, signs + more), number, further))
    return None


def tried_row(letters, parts):
    """How long the shortest words of so many letters and of parts (letter or None, head, word) are, by all ways."""
    best = {letters: (0, 0)}
    for letter, head, word in parts:
        further = {}
        for left, cost in best.items():
            ways = [(left, [head + "=" + word]), (left, [head, word])]
            if letter:
                ways += [(left - many, ["-" + "v" * many + letter, word]) for many in range(min(left, 38) + 1)]
                room = 38 - len(word)
                ways += [(left - many, ["-" + "v" * many + letter + word]) for many in range(min(left,
                    room) + 1) if word]
            for rest, words in ways:
                many, signs = length_of(words)
                longer = (cost[0] + many, cost[1] + signs)
                further[rest] = min(further.get(rest, longer), longer)
        best = further
    for left in range(letters, 0, -1):
        for many in range(1, min(left, 39) + 1 if left in best else 0):
            longer = (best[left][0] + 1, best[left][1] + many + 2)
            best[left - many] = min(best.get(left - many, longer), longer)
    return best[0]


def safe_readings(root, call, rooms, books):
    """All readings of a Call's path and places that are safe in a sort of rooms and books."""
    path, node, ways = call.path(), root, []
    for level in range(len(path) + 1):
        found = []
        for names in tried_sets(node):
            for offs in itertools.product([0, 1], repeat=len(node[1])):
                off = [option[0] for option, bit in zip(node[1], offs) if bit and option[2] == "flag"]
                off = [name for name in off if name not in names]
                row = safe_row(node, call, path[:level], names, off, rooms, books)
                if row is not None and row not in found:
                    found.append(row)
        ways.append(found)
        node = ([below for below in node[4] if below[0] == path[level]] if level < len(path) else [node])[0]
    places = tuple((name, worth) for name, worth in call.places() if worth not in (None, ()))
    return [(path, rows, places) for rows in itertools.product(*ways)]


def safe_row(node, call, path, names, off, rooms, books):
    """The row where just these options stand and these flags are off, or None where it isn't safe."""
    row = []
    for name, _, form, _, default, need, source in node[1]:
        worth = call.worth(path, name)
        if name in names or name in off:
            stands = worth == (0 if name in off else 1) if form == "flag" else worth not in (0, None,
                ()) or worth == 0 and form == "one"
            if not stands:
                return None
            row.append((name, worth))
        elif books or source in rooms or need or default != worth:
            return None
    return tuple(row)
