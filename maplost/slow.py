"""The plain slow meaning: all runs of few lines, all trees of few houses, all logs of the houses of short ways."""

from maplost.errors import InvalidWriters, NotJoined, TooMany
from maplost.founds import names_of
from maplost.networks import both_ways
from maplost.pictures import check_whole
from maplost.texts import short_names
from maplost.trees import Tree, neighbours, side
from maplost.trials import asked_by, rows_before, rows_of
from maplost.two import check_two
from maplost.values import is_list

MOST_TABLES = 3000
MOST_HOUSES = 5
MOST_WHOLE_LINES = 4
MOST_ROADS = 3
MOST_TWO_LINES = 3


def tables(tree, writers):
    """The ascending list of all lists of logs that ended runs leave, in which each of the writers makes a line."""
    if not is_list(writers) or not all([house in tree for house in writers]):
        raise InvalidWriters(writers)
    names = short_names()[:tree.houses]
    quotas = {name: len([k for k in writers if k == house]) for house, name in enumerate(names)}
    roads = [(u, v, {names[house]: True for house in side(tree, u, v)}) for u, v in both_ways(tree)]
    fresh = [tuple([() for _ in names])]
    met = {fresh[0]: True}
    ended = []
    while fresh:
        logs = fresh.pop()
        later = next_tables(logs, quotas, roads)
        if not later:
            ended.append(list(logs))
        for other in later:
            if other not in met:
                if len(met) == MOST_TABLES:
                    raise TooMany(MOST_TABLES + 1)
                met[other] = True
                fresh.append(other)
    return sorted(ended)


def next_tables(logs, quotas, roads):
    """The logs of all houses behind each deed that can be done next: the logs alone tell what was done before."""
    later = []
    for house, name in enumerate(quotas):
        made = len([line for line in logs[house] if line[0] == name])
        if made < quotas[name]:
            later.append(with_line(logs, house, (name, str(made))))
    for u, v, near in roads:
        waiting = [line for line in logs[u] if line[0] in near]
        gone = len([line for line in logs[v] if line[0] in near])
        if gone < len(waiting):
            later.append(with_line(logs, v, waiting[gone]))
    return later


def with_line(logs, house, line):
    """The logs of all houses when one more line has come to that of a house."""
    return (*logs[:house], (*logs[house], line), *logs[house + 1:])


def least_slow(founds):
    """The least number of houses, up to five, of a tree that can leave whole founds, or None, by trying all trees."""
    check_whole(founds)
    lines = list(founds[0][1])
    if len(lines) > MOST_WHOLE_LINES:
        raise TooMany(len(lines))
    rows = [row for row in rows_of(lines) if len(row) == len(lines)]
    asked = asked_by(rows)
    # All trees are tried, so it does not matter how their houses are counted: those of the names stand first.
    homes = {name: house for house, name in enumerate(names_of(founds))}
    strangers = [tuple(log) for own, log in founds if own is None]
    seated = {homes[own]: tuple(log) for own, log in founds if own is not None}
    for k, log in enumerate(strangers):
        seated[len(homes) + k] = log
    for houses in range(len(homes) + len(strangers), MOST_HOUSES + 1):
        options = [[seated[house]] if house in seated else rows for house in range(houses)]
        for tree in all_trees(houses):
            if rows_with(tree, 0, None, options, homes, asked):
                return houses
    return None


def all_trees(houses):
    """All trees of so many houses."""
    pairs = [(u, v) for u in range(houses) for v in range(u + 1, houses)]
    told = [()]
    for pair in pairs:
        told = [*told, *[(*roads, pair) for roads in told if len(roads) < houses - 1]]
    trees = [joined(houses, roads) for roads in told if len(roads) == houses - 1]
    return [tree for tree in trees if tree is not None]


def joined(houses, roads):
    """The tree of as many ascending roads as it has, or None if they do not join all houses."""
    try:
        return Tree(houses, roads)
    except NotJoined:
        return None


def rows_with(tree, house, above, options, homes, asked):
    """The rows of a house that go with some rows of all houses behind it, as seen from its neighbour above."""
    rows = options[house]
    for near in neighbours(tree, house):
        if near != above:
            others = rows_with(tree, near, house, options, homes, asked)
            beside = side(tree, house, near)
            rows = rows_before(rows, others, asked, {name: True for name in homes if homes[name] in beside})
    return rows


def two_slow(founds):
    """The least number of roads, up to three, of a way that can leave two logs, or None, by trying all such ways."""
    check_two(founds)
    lines = sorted({line for own, log in founds for line in log})
    if len(lines) > MOST_TWO_LINES:
        raise TooMany(len(lines))
    rows = rows_of(lines)
    asked = asked_by(rows)
    ends = [[row for row in rows if row[:len(log)] == tuple(log)] for own, log in founds]
    for roads in range(1, MOST_ROADS + 1):
        for levels in all_levels(founds, roads):
            here = ends[1]
            for t in reversed(range(roads)):
                near = {name: True for name in levels if levels[name] <= t}
                here = rows_before(rows, here, asked, near)
            if any([row in here for row in ends[0]]):
                return roads
    return None


def all_levels(founds, roads):
    """All ways to hang the houses of the names that lines bear on the houses of a way, by the numbers of these."""
    ends = {founds[0][0]: [0], founds[1][0]: [roads]}
    told = [{}]
    for name in sorted({line[0] for own, lines in founds for line in lines}):
        houses = ends.get(name, list(range(roads + 1)))
        told = [{**levels, name: house} for levels in told for house in houses]
    return told
