"""Rows of all lines at the places of the map of whole founds, and at the houses between them."""

from maplost.chains import heights
from maplost.cuts import cut_with
from maplost.lots import is_in, is_within, lot_of, sides
from maplost.pictures import check_fits
from maplost.places import map_of, ways
from maplost.wayrows import next_row


def place_rows(founds):
    """For each place of the map the tuple of all lines in their order there."""
    check_fits(founds)
    return rows_at(founds, map_of(founds))


def rows_at(founds, drawn):
    """The rows at the places of a map, which is that of the founds."""
    lots = sides(founds)
    lines = list(founds[0][1])
    rows = []
    for place in place_lots(drawn):
        ahead = {b: len([a for a in lines if a != b and is_on_side(place, lots[(a, b)], lots[(b, a)])]) for b in lines}
        rows.append(tuple(sorted(lines, key=lambda line: ahead[line])))
    return rows


def place_lots(drawn):
    """For each place the number of the lot of its cut, for the first one that of reader 0 alone."""
    return [1, *[lot_of(lot) for lot, roads, arrows in drawn]]


def is_on_side(place, lot, others):
    """Whether a place, by its number of `place_lots`, is on the side of a lot, and not on that of all other readers.

    That of the two which lacks reader 0 is the lot of a cut, or empty.
    """
    return not is_within(place, others) if is_in(0, lot) else is_within(place, lot)


def steps(founds, lot):
    """For each name the greatest number of arrows in a row of names, by the arrows of a cut, that ends in it."""
    check_fits(founds)
    counts = counts_by(founds, cut_with(founds, lot)[2])
    return [(name, counts[name]) for name in sorted(counts)]


def counts_by(founds, arrows):
    """The counts of `steps` by name, for all names that lines bear."""
    names = sorted({line[0] for line in founds[0][1]})
    return heights(names, arrows)


def between(founds, lot):
    """The rows for the houses between the two places that the roads of a cut join, from the place behind it on."""
    check_fits(founds)
    cut = cut_with(founds, lot)
    drawn = map_of(founds)
    near, far, roads = ways(drawn, len(founds))[drawn.index(cut)]
    rows = rows_at(founds, drawn)
    return rows_between(rows[far], rows[near], counts_by(founds, cut[2]), roads)


def rows_between(first, last, counts, roads):
    """The rows for the houses between two that are joined by so many roads, by the counts of the names."""
    levels = {line: counts[line[0]] for line in first}
    rows = [first]
    for t in range(roads - 1):
        rows.append(next_row(rows[t], last, levels, t))
    return [tuple(row) for row in rows[1:]]
