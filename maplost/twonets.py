"""A network behind two logs."""

from maplost.chains import heights
from maplost.plans import are_seat_names, fresh_name, is_plan, network_behind
from maplost.runs import script_behind
from maplost.trees import Tree, way
from maplost.two import best_arrows, items_by_name, items_of, two_fit, two_roads
from maplost.wayrows import way_rows


def two_network(founds):
    """A tree, names, two seats and a script that leaves the two logs, with as few roads between as can be."""
    roads = two_roads(founds)
    levels = name_levels(founds, roads)
    along = way_names(founds, levels, roads)
    aside = [name for name in levels if name not in along]
    tree = tree_of(roads, [levels[name] for name in aside])
    rows = seat_rows(founds, levels, roads)
    for name in aside:
        rows.append([line for line in rows[levels[name]] if line[0] == name])
    names = along + aside
    return (tree, names, (0, roads), script_behind(tree, names, rows))


def name_levels(founds, roads):
    """For each name that a line bears the index of the house of the way at which its house hangs."""
    items = items_by_name(founds)
    levels = heights(items_of(founds), best_arrows(founds))
    levels[1] = roads
    return {name: levels[items[name]] for name in items}


def way_names(founds, levels, roads):
    """The names of the houses of the way."""
    owns = [own for own, lines in founds]
    # A longest row has a name at each level between the ends, so the houses there need no names of their own.
    names = [[name for name in levels if levels[name] == t][0] for t in range(1, roads)]
    start = owns[0] if owns[0] is not None else fresh_name([*levels, *owns])
    end = owns[1] if owns[1] is not None else fresh_name([*levels, *owns, start])
    return [start, *names, end]


def tree_of(roads, hung):
    """The tree of a way of so many roads and, for each item of `hung`, one more house beside this house."""
    pairs = [(house, house + 1) for house in range(roads)]
    pairs.extend([(house, roads + 1 + k) for k, house in enumerate(hung)])
    return Tree(roads + 1 + len(hung), sorted(pairs))


def seat_rows(founds, levels, roads):
    """The rows of the houses of the way, the first and the last of which begin with the lines of the readers."""
    first, last = list(founds[0][1]), list(founds[1][1])
    # These lines come to the other end, too, but behind where its log is cut off.
    late_first = [line for line in last if line not in first and levels[line[0]] == 0]
    late_last = [line for line in first if line not in last and levels[line[0]] == roads]
    first.extend(late_first)
    last.extend(late_last)
    return way_rows(first, last, {line: levels[line[0]] for line in first + last}, roads)


def is_two_network(founds, value):
    """Whether any value is a network that leaves the two logs, with as few roads between as can be."""
    if not two_fit(founds) or not is_plan(value, 2):
        return False
    tree, names, seats, script = value
    if len(way(tree, seats[0], seats[1])) - 1 != two_roads(founds) or not are_seat_names(founds, names, seats):
        return False
    network = network_behind(value)
    return network is not None and begin_logs(network, founds, seats)


def begin_logs(network, founds, seats):
    """Whether the logs of the seats begin with the lines of the readers."""
    for (own, lines), seat in zip(founds, seats):
        if list(network.log(seat)[:len(lines)]) != list(lines):
            return False
    return True
