"""Whole logs by a plain trial: all small trees, all homes of the names and seats of the readers, all rows of houses."""

from functools import lru_cache
from itertools import combinations, permutations, product


def all_trees(houses):
    """One tree of each shape, as the tuple of its roads."""
    shapes = {}
    for before in product(*[range(k) for k in range(1, houses)]):
        roads = tuple((u, k + 1) for k, u in enumerate(before))
        shapes.setdefault(shape(houses, roads), roads)
    return list(shapes.values())


def shape(houses, roads):
    """What is equal for two trees exactly if they differ in the numbers of the houses alone."""
    near = near_houses(houses, roads)

    def below(house, above):
        return tuple(sorted(below(other, house) for other in near[house] if other != above))

    return min(below(house, None) for house in range(houses))


def near_houses(houses, roads):
    return [[v if u == house else u for u, v in roads if house in (u, v)] for house in range(houses)]


def sides_of(houses, roads):
    """For each road (u, v) the houses on u's side."""
    near = near_houses(houses, roads)
    told = []
    for u, v in roads:
        found, fresh = {u}, [u]
        while fresh:
            for other in near[fresh.pop()]:
                if other != v and other not in found:
                    found.add(other)
                    fresh.append(other)
        told.append(frozenset(found))
    return told


@lru_cache(maxsize=None)
def are_right(row_u, row_v, near):
    """Whether whole rows are right at a road, `near` being the lines that were written on u's side."""
    for k, b in enumerate(row_v):
        for a in row_v[k + 1:]:
            if row_u.index(a) < row_u.index(b) and (a not in near or b in near):
                return False
    return True


def can_leave(houses, roads, homes, seated):
    """Whether rows for all houses are right at all roads, where `seated` tells the rows of some."""
    lines = next(iter(seated.values()))
    all_rows = list(permutations(lines))
    options = {house: [seated[house]] if house in seated else all_rows for house in range(houses)}
    sides = sides_of(houses, roads)
    # The roads lead from elder houses to younger ones, so the last house has one road among those that are left.
    for (u, v), near_side in sorted(zip(roads, sides), key=lambda pair: -pair[0][1]):
        near = frozenset(line for line in lines if homes[line[0]] in near_side)
        options[u] = [row for row in options[u] if any(are_right(row, other, near) for other in options[v])]
        if not options[u]:
            return False
    return True


def networks(founds, houses):
    """All (roads, homes, seats) of trees of so many houses of which some ended run leaves the whole founds."""
    names = sorted({line[0] for own, lines in founds for line in lines} | {own for own, lines in founds if own})
    unknown = [k for k, (own, lines) in enumerate(founds) if own is None]
    for roads in all_trees(houses):
        for chosen in permutations(range(houses), len(names) + len(unknown)):
            homes = dict(zip(names, chosen))
            lone = dict(zip(unknown, chosen[len(names):]))
            seats = [homes[own] if own is not None else lone[k] for k, (own, lines) in enumerate(founds)]
            seated = {seat: tuple(lines) for seat, (own, lines) in zip(seats, founds)}
            if can_leave(houses, roads, homes, seated):
                yield roads, homes, seats


def fewest_slow(founds, most):
    """The fewest houses, up to so many, of a tree that can leave the founds, or None."""
    for houses in range(1, most + 1):
        if any(True for _ in networks(founds, houses)):
            return houses
    return None


def distance(houses, roads, a, b):
    near = near_houses(houses, roads)
    found, count = {a}, 0
    while b not in found:
        found |= {other for house in found for other in near[house]}
        count += 1
    return count


def far_slow(founds, most):
    """The least distances between readers and names in trees of up to so many houses, by (reader, name)."""
    least = {}
    for houses in range(1, most + 1):
        for roads, homes, seats in networks(founds, houses):
            for reader, seat in enumerate(seats):
                for name in homes:
                    told = distance(houses, roads, seat, homes[name])
                    least[(reader, name)] = min(told, least.get((reader, name), told))
    return least


def apart_slow(founds, most):
    """All (lot, first, second) that some road parts so in each tree of up to so many houses."""
    kept = None
    for houses in range(1, most + 1):
        for roads, homes, seats in networks(founds, houses):
            told = set()
            for side in sides_of(houses, roads):
                for part in (side, frozenset(range(houses)) - side):
                    lot = tuple(k for k, seat in enumerate(seats) if seat in part)
                    told |= {(lot, a, b) for a in homes for b in homes if homes[a] in part and homes[b] not in part}
            kept = told if kept is None else kept & told
    return kept
