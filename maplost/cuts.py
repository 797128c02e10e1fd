"""Cuts of the readers, cuts that cross, and maps."""

from maplost.arrows import names_at
from maplost.chains import find_ring, longest_row
from maplost.errors import InvalidLot, InvalidMap, InvalidReaders, Ringed
from maplost.founds import MOST_READERS, check_founds
from maplost.lots import do_cross, lot_of, parting, readers_of
from maplost.texts import is_name
from maplost.values import is_ascending, is_below, is_int, is_list, is_tuple


def cuts(founds):
    """The ascending list of all cuts: tuples of the lot, the number of roads and the arrows."""
    check_founds(founds)
    pairs = parting(founds)
    told = []
    for lot, arrows in sorted([(readers_of(lot), arrows_by(pairs[lot])) for lot in pairs]):
        names = ring_by(arrows)
        if names is not None:
            raise Ringed(names)
        told.append((lot, roads_by(arrows), arrows))
    return told


def arrows_by(pairs):
    """The ascending tuple of the arrows between names that lines show."""
    return tuple(sorted({(a[0], b[0]) for a, b in pairs}))


def ring_by(arrows):
    """None, or a tuple of different names that are in a ring by the arrows."""
    return find_ring(names_at(arrows), arrows)


def roads_by(arrows):
    """The greatest number of names in a row by the arrows, less one; there is no ring."""
    return max(0, len(longest_row(names_at(arrows), arrows)) - 1)


def cut_with(founds, lot):
    """The cut with a lot; raises InvalidLot unless the value is the ascending tuple of the readers of a cut."""
    if is_lot(lot, len(founds)):
        for cut in cuts(founds):
            if cut[0] == lot:
                return cut
    raise InvalidLot(lot)


def cross(founds):
    """None, or a tuple of two pairs of lines and of four readers that shows that two cuts cross."""
    check_founds(founds)
    pairs = parting(founds)
    for lot in pairs:
        for other in pairs:
            if do_cross(lot, other):
                readers = [0, readers_of(other & ~lot)[0], readers_of(lot & ~other)[0], readers_of(lot & other)[0]]
                # The line that is ahead in the lot is behind in the log of reader 0.
                return (*pairs[lot][0][::-1], *pairs[other][0][::-1], tuple(readers))
    return None


def is_cross(founds, value):
    """Whether any value is a tuple that shows that two cuts cross."""
    check_founds(founds)
    if not is_tuple(value, 5) or not is_tuple(value[4], 4):
        return False
    a, b, c, d, readers = value
    if not all([is_below(reader, len(founds)) for reader in readers]):
        return False
    if not all([line in lines for line in (a, b, c, d) for own, lines in founds]):
        return False
    rows = [list(founds[reader][1]) for reader in readers]
    first = [row.index(a) < row.index(b) for row in rows]
    second = [row.index(c) < row.index(d) for row in rows]
    return first == [True, True, False, False] and second == [True, False, True, False]


def check_many(readers):
    """Raises InvalidReaders unless the value is a number of readers."""
    if not is_int(readers) or not 1 <= readers <= MOST_READERS:
        raise InvalidReaders(readers)


def is_map(value, readers):
    """Whether any value is a map of so many readers."""
    check_many(readers)
    if not is_list(value) or not all([is_cut(cut, readers) for cut in value]):
        return False
    # Lots that ascend are not so many, whatever the length of the list, that comparing each two of them takes long.
    if not is_ascending([cut[0] for cut in value]):
        return False
    lots = [lot_of(cut[0]) for cut in value]
    for k, lot in enumerate(lots):
        if any([do_cross(lot, other) for other in lots[:k]]):
            return False
    return True


def is_cut(value, readers):
    """Whether any value is a cut of a map of so many readers."""
    return is_tuple(value, 3) and is_lot(value[0], readers) and are_arrows(value[2], value[1])


def is_lot(value, readers):
    """Whether any value is a non-empty ascending tuple of different readers, of so many, without reader 0."""
    if type(value) is not tuple or len(value) == 0:
        return False
    return all([is_below(reader, readers) and reader > 0 for reader in value]) and is_ascending(value)


def are_arrows(value, roads):
    """Whether any two values are the arrows and the number of roads of a cut of a map."""
    if type(value) is not tuple or not is_int(roads) or roads < 1:
        return False
    for pair in value:
        if not is_tuple(pair, 2) or not is_name(pair[0]) or not is_name(pair[1]) or pair[0] == pair[1]:
            return False
    return is_ascending(value) and ring_by(value) is None and roads_by(value) <= roads


def comes_of(rough, fine, readers):
    """Whether the one map comes of the other one by drawing roads together."""
    check_map(rough, readers)
    check_map(fine, readers)
    told = {lot: (roads, {arrow: True for arrow in arrows}) for lot, roads, arrows in fine}
    for lot, roads, arrows in rough:
        if lot not in told or roads > told[lot][0] or not all([arrow in told[lot][1] for arrow in arrows]):
            return False
    return True


def check_map(drawn, readers):
    """Raises the errors of the number of readers of a map, and of the map."""
    if not is_map(drawn, readers):
        raise InvalidMap(drawn)
