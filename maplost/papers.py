"""Backings of maps: for each cut the lines that show its roads and its arrows."""

from maplost.arrows import names_at
from maplost.chains import longest_row
from maplost.cuts import check_map
from maplost.founds import check_founds
from maplost.lots import lot_of, parting
from maplost.places import map_of
from maplost.texts import is_line
from maplost.values import is_list, is_tuple


def backing(founds):
    """For each cut of the map of the founds a row of names, the lines that show it, and those that show the arrows."""
    drawn = map_of(founds)
    pairs = parting(founds)
    return [backing_of(arrows, pairs[lot_of(lot)]) for lot, roads, arrows in drawn]


def backing_of(arrows, pairs):
    """The names, pairs and shown lines for the arrows of a cut, by the lines (a, b) that part the readers so."""
    shown = {}
    for a, b in pairs:
        shown.setdefault((a[0], b[0]), (a, b))
    names = longest_row(names_at(arrows), arrows)
    return (names, tuple([shown[arrow] for arrow in zip(names, names[1:])]), tuple([shown[arrow] for arrow in arrows]))


def is_backing(founds, drawn, value):
    """Whether any value is a backing of a map for founds, whether or not it is their map."""
    check_founds(founds)
    check_map(drawn, len(founds))
    if not is_list(value) or len(value) != len(drawn):
        return False
    pairs = parting(founds)
    return all([is_backed(cut, pairs.get(lot_of(cut[0]), []), item) for cut, item in zip(drawn, value)])


def is_backed(cut, pairs, value):
    """Whether any value backs a cut of a map, by the lines (a, b) that part the readers so."""
    lot, roads, arrows = cut
    if not is_tuple(value, 3) or not is_tuple(value[0], roads + 1):
        return False
    names, steps, shown = value
    known = {pair: True for pair in pairs}
    return are_shown(list(zip(names, names[1:])), known, steps) and are_shown(arrows, known, shown)


def are_shown(arrows, known, value):
    """Whether any value is a tuple of known lines (a, b) of the names of the arrows, one for each arrow."""
    if not is_tuple(value, len(arrows)):
        return False
    for (first, second), pair in zip(arrows, value):
        if not is_tuple(pair, 2) or not is_line(pair[0]) or not is_line(pair[1]) or pair not in known:
            return False
        if pair[0][0] != first or pair[1][0] != second:
            return False
    return True
