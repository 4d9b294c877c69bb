"""Usage rows: which sets of a command's options they let by, and which of them suffice."""

from callwords.commands import NAME


def all_rows(node):
    """All usage rows of a Node's command, a tuple of tuples (must, may), in their order."""
    if node.known_rows is None:
        many, found = len(node.options), []
        lets = _letting(many, node.fitting)
        for must, may in lets:
            if not _is_within_another(must, may, many, lets):
                needed = _numbers(must, many)
                found.append((len(needed), needed, _numbers(may, many)))
        node.known_rows = tuple([(_named(node, needed), _named(node, free)) for _, needed, free in sorted(found)])
    return node.known_rows


def first_row(node, names):
    """The first usage row by which a set of names goes, or None."""
    for must, may in all_rows(node):
        if all([name in names for name in must]) and all([name in must or name in may for name in names]):
            return must, may
    return None


def _numbers(bits, many):
    """The options' numbers in a set, a tuple."""
    return tuple([number for number in range(many) if bits >> number & 1])


def _named(node, numbers):
    """The names of options of these numbers, a tuple."""
    return tuple([node.options[number][NAME] for number in numbers])


def _letting(many, fitting):
    """A dict of all pairs (must, may) that let by fitting sets only."""
    lets = {}
    for may in range(1 << many):
        rest, low = may & (may - 1), may & -may
        for must in range(1 << many):
            if may == 0:
                fits = must in fitting
            else:
                fits = must & may == 0 and (must, rest) in lets and (must | low, rest) in lets
            if fits:
                lets[must, may] = True
    return lets


def _is_within_another(must, may, many, lets):
    """Whether another pair lets by all that this one does and more: one then does by a single option more in may."""
    for number in range(many):
        bit = 1 << number
        if may & bit == 0 and (must - (must & bit), may | bit) in lets:
            return True
    return False
