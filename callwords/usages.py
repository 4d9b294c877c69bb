"""Usage rows: which sets of a command's options they let by, and which of them suffice."""

from callwords.commands import NAME, OPTIONS


def all_rows(grammar, path):
    """All usage rows of one of the paths, tuples (must, may), in their order.

    Options are numbered, and sets of them are numbers, the bit of an option's number being set.
    """
    names = [option[NAME] for option in grammar.command(path)[OPTIONS]]
    fitting = {_bits(found, names): True for found in grammar.sets_at(path)}
    lets = _letting(len(names), fitting)
    found = []
    for must, may in lets:
        if not _is_within_another(must, may, len(names), lets):
            needed, free = _numbers(must, len(names)), _numbers(may, len(names))
            found.append((len(needed), needed, free))
    return [(_named(needed, names), _named(free, names)) for _, needed, free in sorted(found)]


def _bits(found, names):
    """The number of a set of names."""
    return sum([1 << number for number, name in enumerate(names) if name in found])


def _numbers(bits, many):
    """The options' numbers in the number of a set, a tuple."""
    return tuple([number for number in range(many) if bits >> number & 1])


def _named(numbers, names):
    """The names of options of these numbers, a tuple."""
    return tuple([names[number] for number in numbers])


def _letting(many, fitting):
    """A dict of all pairs (must, may) that let by fitting sets only."""
    lets = {}
    for may in range(1 << many):
        rest, low = may & (may - 1), may & -may
        for must in range(1 << many):
            if must & may == 0:
                if must in fitting if may == 0 else (must, rest) in lets and (must | low, rest) in lets:
                    lets[must, may] = True
    return lets


def _is_within_another(must, may, many, lets):
    """Whether another pair lets by all that this one does and more: one then does by a single option more in may."""
    for number in range(many):
        bit = 1 << number
        if may & bit == 0 and (must - (must & bit), may | bit) in lets:
            return True
    return False
