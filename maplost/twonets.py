"""A network behind two logs."""

from maplost.chains import heights
from maplost.errors import Refused
from maplost.networks import is_script, run_network
from maplost.runs import script_behind
from maplost.texts import are_names
from maplost.trees import Tree, way
from maplost.two import best_arrows, items_by_name, items_of, two_fit, two_roads
from maplost.values import is_tuple
from maplost.wayrows import way_rows

LETTERS = "abcdefghijklmnopqrstuvwxyz"


def two_network(founds):
    """A tree, names, two seats and a script that leaves the two logs, with as few roads between as can be."""
    roads = two_roads(founds)
    levels = name_levels(founds, roads)
    along = way_names(founds, levels, roads)
    aside = [name for name in levels if name not in along]
    tree = tree_of(roads, [levels[name] for name in aside])
    rows = seat_rows(founds, levels, roads)
    for name in aside:
        rows.append([line for line in rows[levels[name]] if line[0] == name])
    names = along + aside
    return (tree, names, (0, roads), script_behind(tree, names, rows))


def name_levels(founds, roads):
    """For each name that a line bears the index of the house of the way at which its house hangs."""
    items = items_by_name(founds)
    levels = heights(items_of(founds), best_arrows(founds))
    levels[1] = roads
    return {name: levels[items[name]] for name in items}


def way_names(founds, levels, roads):
    """The names of the houses of the way."""
    owns = [own for own, lines in founds]
    # A longest row has a name at each level between the ends, so the houses there need no names of their own.
    names = [[name for name in levels if levels[name] == t][0] for t in range(1, roads)]
    start = owns[0] if owns[0] is not None else fresh_name([*levels, *owns])
    end = owns[1] if owns[1] is not None else fresh_name([*levels, *owns, start])
    return [start, *names, end]


def fresh_name(used):
    """The first name of one or two letters that is not used."""
    names = [first + second for first in ["", *LETTERS] for second in LETTERS]
    return [name for name in names if name not in used][0]


def tree_of(roads, hung):
    """The tree of a way of so many roads and, for each item of `hung`, one more house beside this house."""
    pairs = [(house, house + 1) for house in range(roads)]
    pairs.extend([(house, roads + 1 + k) for k, house in enumerate(hung)])
    return Tree(roads + 1 + len(hung), sorted(pairs))


def seat_rows(founds, levels, roads):
    """The rows of the houses of the way, the first and the last of which begin with the lines of the readers."""
    first, last = list(founds[0][1]), list(founds[1][1])
    # These lines come to the other end, too, but behind where its log is cut off.
    late_first = [line for line in last if line not in first and levels[line[0]] == 0]
    late_last = [line for line in first if line not in last and levels[line[0]] == roads]
    first.extend(late_first)
    last.extend(late_last)
    return way_rows(first, last, {line: levels[line[0]] for line in first + last}, roads)


def is_two_network(founds, value):
    """Whether any value is a network that leaves the two logs, with as few roads between as can be."""
    if not two_fit(founds) or not is_tuple(value, 4):
        return False
    tree, names, seats, script = value
    if not isinstance(tree, Tree) or not are_names(names, tree.houses) or not is_script(tree, script):
        return False
    if not is_tuple(seats, 2) or seats[0] not in tree or seats[1] not in tree:
        return False
    if len(way(tree, seats[0], seats[1])) - 1 != two_roads(founds):
        return False
    return are_seat_names(founds, names, seats) and leaves_logs(founds, tree, names, seats, script)


def are_seat_names(founds, names, seats):
    """Whether each seat has the own of its reader as its name, or one that no line bears if that is None."""
    borne = [line[0] for own, lines in founds for line in lines]
    for (own, lines), seat in zip(founds, seats):
        if names[seat] != own and (own is not None or names[seat] in borne):
            return False
    return True


def leaves_logs(founds, tree, names, seats, script):
    """Whether the script can be done, and leaves logs of the seats that begin with the lines of the readers."""
    try:
        network = run_network(tree, names, script)
    except Refused:
        return False
    for (own, lines), seat in zip(founds, seats):
        if list(network.log(seat)[:len(lines)]) != list(lines):
            return False
    return True
