"""Two logs: how far the house of a name is at least, and which name is surely nearer."""

from maplost.chains import heights, reached
from maplost.errors import InvalidIndex, InvalidName
from maplost.founds import check_name
from maplost.two import check_fit, held_arrows, items_of, two_roads
from maplost.values import is_below


def two_far(founds, reader, name):
    """The least number of roads that can lie between the house of a reader and that of a name."""
    check_fit(founds)
    if not is_below(reader, len(founds)):
        raise InvalidIndex(reader)
    check_name(founds, name)
    item = item_of(founds, name)
    if item == reader:
        return 0
    if item == 1 - reader:
        return two_roads(founds)
    items = items_of(founds)
    counts = [heights(items, seen_from(reader, pairs))[item] for pairs in held_arrows(founds)]
    return max(1, min(counts))


def item_of(founds, name):
    """The item of a name: the end of the reader whose own it is, and otherwise the name."""
    ends = [k for k, (own, lines) in enumerate(founds) if own == name]
    return ends[0] if ends else name


def seen_from(reader, pairs):
    """The arrows, turned about if they are seen from reader 1."""
    return pairs if reader == 0 else [(b, a) for a, b in pairs]


def two_nearer(founds, first, second):
    """Whether the house of the one name is surely nearer to reader 0, by its foot, than that of the other one."""
    check_fit(founds)
    check_name(founds, first)
    check_name(founds, second)
    if first == second:
        raise InvalidName(second)
    x, y = item_of(founds, first), item_of(founds, second)
    return all([is_nearer(pairs, x, y) for pairs in held_arrows(founds)])


def is_nearer(pairs, x, y):
    """Whether the arrows of one choice tell that the item x is nearer to the end 0 than the item y."""
    if y in reached(pairs, x):
        return True
    if x == 0:
        return any([b == y for a, b in pairs])
    return y == 1 and any([a == x for a, b in pairs])
