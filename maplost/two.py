"""Two logs exactly: whether they can be those of a network, and how many roads lie between at least."""

from maplost.arrows import turned_lines
from maplost.chains import find_ring, is_chain, longest_row
from maplost.errors import Nobodys, NotTwo
from maplost.founds import check_founds
from maplost.values import are_different, is_tuple


def check_two(founds):
    """Raises the errors of founds that are to have two readers."""
    check_founds(founds)
    if len(founds) != 2:
        raise NotTwo(len(founds))


def items_by_name(founds):
    """The item of each name that a line of the founds bears."""
    ends = {founds[k][0]: k for k in (0, 1)}
    names = sorted({line[0] for own, lines in founds for line in lines})
    return {name: ends.get(name, name) for name in names}


def items_of(founds):
    """The list of all items: the two ends, then the names that are no end's, ascending."""
    items = items_by_name(founds)
    return [0, 1, *[name for name in items if items[name] == name]]


def lone_lines(lines, others, every):
    """The lines that the others lack; unless `every`, those only that are ahead of one that they have."""
    last = max([k for k, line in enumerate(lines) if line in others], default=0)
    return [line for k, line in enumerate(lines) if line not in others and (every or k < last)]


def choice_arrows(founds, choice):
    """The arrows from item to item by a choice, each once."""
    first, second = founds[0][1], founds[1][1]
    items = items_by_name(founds)
    pairs = [(0, 1)]
    pairs.extend([(items[a[0]], items[b[0]]) for a, b in turned_lines(first, second)])
    pairs.extend([(items[line[0]], 1) for line in lone_lines(first, second, choice == 0)])
    pairs.extend([(0, items[line[0]]) for line in lone_lines(second, first, choice == 1)])
    return list({pair: True for pair in pairs})


def wrong_in(items, pairs):
    """None if the choice with these arrows holds, or a tuple of items that shows that it does not."""
    for x, y in pairs:
        if is_astray(x, y):
            return (x, y)
    return find_ring(items, pairs)


def is_astray(x, y):
    """Whether an arrow from the one item to another one leads to the end 0 or from the end 1."""
    return x != y and (x == 1 or y == 0)


def is_wrong(pairs, value):
    """Whether any value is a tuple of items that shows that the choice with these arrows does not hold."""
    if not is_plain(value) or not value or not are_different(value):
        return False
    if value in pairs and is_astray(value[0], value[1]):
        return True
    return is_chain(pairs, (*value, value[0]))


def is_plain(value):
    """Whether any value is a tuple of integers and strings; True and False are no ends, although they equal them."""
    return type(value) is tuple and all([type(item) in (int, str) for item in value])


def two_picture(founds):
    """None if a choice holds, or for each choice a tuple of items that shows that it does not."""
    check_two(founds)
    items = items_of(founds)
    wrongs = [wrong_in(items, choice_arrows(founds, choice)) for choice in (0, 1)]
    return None if None in wrongs else tuple(wrongs)


def two_fit(founds):
    """Whether two founds are those of some network."""
    return two_picture(founds) is None


def is_two_picture(founds, value):
    """Whether any value shows that no choice holds."""
    check_two(founds)
    return is_tuple(value, 2) and all([is_wrong(choice_arrows(founds, k), value[k]) for k in (0, 1)])


def check_fit(founds):
    """Raises the errors of two founds that are to be those of some network."""
    picture = two_picture(founds)
    if picture is not None:
        raise Nobodys(picture)


def held_arrows(founds):
    """For each choice that holds the list of its arrows."""
    items = items_of(founds)
    choices = [choice_arrows(founds, choice) for choice in (0, 1)]
    return [pairs for pairs in choices if wrong_in(items, pairs) is None]


def best_arrows(founds):
    """The arrows of a choice that holds whose longest rows are as short as can be; some choice holds."""
    items = items_of(founds)
    return min(held_arrows(founds), key=lambda arrows: len(longest_row(items, arrows)))


def two_roads(founds):
    """The fewest roads that can lie between the houses of two readers."""
    check_fit(founds)
    return len(longest_row(items_of(founds), best_arrows(founds))) - 1


def why_two_roads(founds):
    """For each choice a longest row of items if it holds, or else a tuple of items that shows that it does not."""
    check_fit(founds)
    items = items_of(founds)
    papers = []
    for choice in (0, 1):
        pairs = choice_arrows(founds, choice)
        wrong = wrong_in(items, pairs)
        papers.append(longest_row(items, pairs) if wrong is None else wrong)
    return tuple(papers)


def is_why_two_roads(founds, value):
    """Whether any value shows that no fewer roads can lie between; it is False if no choice holds."""
    if not two_fit(founds) or not is_tuple(value, 2):
        return False
    items = items_of(founds)
    roads = two_roads(founds)
    for choice in (0, 1):
        pairs = choice_arrows(founds, choice)
        if wrong_in(items, pairs) is not None:
            if not is_wrong(pairs, value[choice]):
                return False
        elif not is_plain(value[choice]) or not is_chain(pairs, value[choice]) or len(value[choice]) <= roads:
            return False
    return True
