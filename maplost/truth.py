"""The true map of a tree, and the houses on the ways between some seats."""

from maplost.errors import InvalidNames, InvalidSeats
from maplost.founds import MOST_READERS
from maplost.texts import are_names
from maplost.trees import side, way
from maplost.values import are_different, is_list


def true_map(tree, names, seats):
    """The true map of a tree whose houses have names, for readers who sit in some houses."""
    if not are_names(names, tree.houses):
        raise InvalidNames(names)
    check_seats(tree, seats)
    parted = sides_by_lot(tree, seats)
    told = []
    for lot in sorted(parted):
        told.append((lot, len(parted[lot]), arrows_over(tree, names, parted[lot])))
    return told


def arrows_over(tree, names, sides):
    """The ascending tuple of the arrows from the names on any of some sides of roads to those on the other side."""
    pairs = [(a, b) for houses in sides for a in houses for b in range(tree.houses) if b not in houses]
    return tuple(sorted({(names[a], names[b]) for a, b in pairs}))


def check_seats(tree, seats):
    """Raises InvalidSeats unless the value is a list of different houses of a tree, one for each reader."""
    if not is_list(seats) or not 1 <= len(seats) <= MOST_READERS:
        raise InvalidSeats(seats)
    if not all([seat in tree for seat in seats]) or not are_different(seats):
        raise InvalidSeats(seats)


def sides_by_lot(tree, seats):
    """For each lot of readers, without reader 0, that roads part from all others, the sides of these roads with it."""
    parted = {}
    for u, v in tree.roads:
        houses = side(tree, u, v)
        if seats[0] in houses:
            houses = side(tree, v, u)
        lot = tuple([reader for reader, seat in enumerate(seats) if seat in houses])
        if lot:
            parted.setdefault(lot, []).append(houses)
    return parted


def meets(tree, seats):
    """The ascending list of the houses on the ways between any two of the seats, or of the one seat alone."""
    check_seats(tree, seats)
    # The ways from one seat to all others have all houses of the ways between those, too.
    return sorted({house for seat in seats for house in way(tree, seats[0], seat)})
