"""Maps as lines to read."""

from maplost.places import map_of


def draw(founds):
    """For each cut of the map of the founds a line with the readers on either side and the number of its roads."""
    told = []
    for lot, roads, arrows in map_of(founds):
        others = [reader for reader in range(len(founds)) if reader not in lot]
        unit = "road" if roads == 1 else "roads"
        told.append(f"{joined(others)} | {joined(lot)}: {roads} {unit}")
    return told


def joined(readers):
    """Some readers as a string, with one space between each two of them."""
    return " ".join([str(reader) for reader in readers])
