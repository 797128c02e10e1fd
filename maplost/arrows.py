"""Arrows between names, as two logs tell them, their rows and their rings."""

from maplost.chains import find_ring, is_chain, longest_row
from maplost.errors import InvalidIndex, NoRow, Ringed
from maplost.founds import check_founds
from maplost.texts import is_line, is_name
from maplost.values import is_below, is_list, is_tuple


def turned_lines(first, second):
    """The ascending list of the tuples of two lines, the one ahead in the first row and behind in the second."""
    place = {line: k for k, line in enumerate(second)}
    shared = [line for line in first if line in place]
    return sorted([(a, b) for k, a in enumerate(shared) for b in shared[k + 1:] if place[b] < place[a]])


def check_readers(founds, i, j):
    """Raises the errors of founds and of the indices of two readers."""
    check_founds(founds)
    if not is_below(i, len(founds)):
        raise InvalidIndex(i)
    if not is_below(j, len(founds)) or i == j:
        raise InvalidIndex(j)


def turned(founds, i, j):
    """The ascending list of the tuples of two lines of which the one goes before the other from i to j."""
    check_readers(founds, i, j)
    return turned_lines(founds[i][1], founds[j][1])


def arrows(founds, i, j):
    """The ascending list of the tuples of two names such that an arrow leads from the one to the other."""
    return sorted(shown_arrows(founds, i, j))


def shown_arrows(founds, i, j):
    """The arrows from i to j, each with the first tuple of lines that shows it."""
    shown = {}
    for a, b in turned(founds, i, j):
        shown.setdefault((a[0], b[0]), (a, b))
    return shown


def names_at(pairs):
    """The ascending list of the names to which or from which arrows lead."""
    return sorted({name for pair in pairs for name in pair})


def ring(founds, i, j):
    """None, or a tuple of different names that are in a ring by the arrows from i to j."""
    pairs = arrows(founds, i, j)
    return find_ring(names_at(pairs), pairs)


def row(founds, i, j):
    """A longest row of names by the arrows from i to j, the empty tuple if there is no arrow."""
    pairs = arrows(founds, i, j)
    names = find_ring(names_at(pairs), pairs)
    if names is not None:
        raise Ringed(names)
    return longest_row(names_at(pairs), pairs)


def roads_between(founds, i, j):
    """The least number of roads that a longest row of names shows between two readers."""
    return max(1, len(row(founds, i, j)) - 1)


def check_row(shown, names):
    """Raises NoRow unless the value is a row of names by these arrows."""
    if type(names) is not tuple or len(names) < 2 or not all([is_name(name) for name in names]):
        raise NoRow(names)
    if not is_chain(shown, names):
        raise NoRow(names)


def why_row(founds, i, j, names):
    """The list that has for each arrow of a row of names two lines that show it."""
    shown = shown_arrows(founds, i, j)
    check_row(shown, names)
    return [shown[pair] for pair in zip(names, names[1:])]


def is_why_row(founds, i, j, names, value):
    """Whether any value is a list that shows each arrow of a row of names."""
    check_row(shown_arrows(founds, i, j), names)
    if not is_list(value) or len(value) != len(names) - 1:
        return False
    if not all([is_tuple(pair, 2) and is_line(pair[0]) and is_line(pair[1]) for pair in value]):
        return False
    pairs = {pair: True for pair in turned(founds, i, j)}
    return all([pair in pairs and (pair[0][0], pair[1][0]) == (names[k], names[k + 1]) for k, pair in enumerate(value)])
