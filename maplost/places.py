"""The map of founds, and the tree of places that a map tells."""

from maplost.arrows import check_readers, roads_between
from maplost.cuts import check_map, cross, cuts
from maplost.errors import Crossed, InvalidIndex, InvalidLot
from maplost.founds import check_founds
from maplost.values import are_different, is_below, is_list


def map_of(founds):
    """The map of founds."""
    shown = cross(founds)
    if shown is not None:
        raise Crossed(shown)
    return cuts(founds)


def places(drawn, readers):
    """For each place the ascending tuple of its readers: that of reader 0, then those behind the cuts."""
    check_map(drawn, readers)
    homes = [place_around(drawn, (reader,), 1) for reader in range(readers)]
    many = len(drawn) + 1
    return [tuple([reader for reader, home in enumerate(homes) if home == place]) for place in range(many)]


def place_around(drawn, readers, least):
    """The place behind the cut with the fewest readers, at least so many, that has all of some readers.

    It is that of reader 0 if there is no such cut. Of lots that do not cross and share a reader no two are equally
    large, so there is just one with the fewest readers.
    """
    sizes = []
    for k, (lot, roads, arrows) in enumerate(drawn):
        if len(lot) >= least and all([reader in lot for reader in readers]):
            sizes.append((len(lot), k + 1))
    return min(sizes, default=(0, 0))[1]


def ways(drawn, readers):
    """For each cut the tuple (near, far, roads) of the two places that its roads join, and of their number."""
    check_map(drawn, readers)
    near = [place_around(drawn, lot, len(lot) + 1) for lot, roads, arrows in drawn]
    return [(near[k], k + 1, roads) for k, (lot, roads, arrows) in enumerate(drawn)]


def roads_of(drawn, readers, i, j):
    """The sum of the roads on the way between the places of two readers."""
    check_map(drawn, readers)
    if not is_below(i, readers):
        raise InvalidIndex(i)
    if not is_below(j, readers):
        raise InvalidIndex(j)
    return sum([roads for lot, roads, arrows in drawn if (i in lot) != (j in lot)])


def least_way(founds, i, j):
    """The least number of roads between the houses of two readers, by their logs and by the map of all."""
    check_readers(founds, i, j)
    drawn = map_of(founds)
    return max(roads_between(founds, i, j), roads_of(drawn, len(founds), i, j))


def of_readers(founds, lot):
    """The founds of the readers of a lot, in the order in which it names them."""
    check_founds(founds)
    if not is_list(lot) or len(lot) == 0 or not all([is_below(reader, len(founds)) for reader in lot]):
        raise InvalidLot(lot)
    if not are_different(lot):
        raise InvalidLot(lot)
    return [(founds[reader][0], list(founds[reader][1])) for reader in lot]
