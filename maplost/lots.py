"""Lots of readers as numbers, and the lots that the common lines of founds make.

The number of a lot has the bit k if reader k is in the lot; so two lots are compared by one step.
"""

from maplost.founds import common


def lot_of(readers):
    """The number of a lot of different readers."""
    return sum([1 << reader for reader in readers])


def everyone(founds):
    """The number of the lot of all readers."""
    return (1 << len(founds)) - 1


def readers_of(lot):
    """The ascending tuple of the readers of a lot."""
    return tuple([reader for reader in range(lot.bit_length()) if is_in(reader, lot)])


def is_in(reader, lot):
    """Whether a reader is in a lot."""
    return lot >> reader & 1 == 1


def is_within(lot, other):
    """Whether all readers of the one lot are in the other one."""
    return lot & other == lot


def do_cross(lot, other):
    """Whether two lots share a reader, and neither has all readers of the other one."""
    return lot & other not in (0, lot, other)


def sides(founds):
    """For each two common lines (a, b) the lot of the readers in whose logs a is ahead of b."""
    lines = common(founds)
    lots = {(a, b): 0 for a in lines for b in lines if a != b}
    for reader, (own, log) in enumerate(founds):
        place = {line: k for k, line in enumerate(log)}
        row = sorted(lines, key=lambda line: place[line])
        for k, a in enumerate(row):
            for b in row[k + 1:]:
                lots[(a, b)] += 1 << reader
    return lots


def parted_sides(founds):
    """Of `sides` those of two lines that part the readers."""
    return {pair: lot for pair, lot in sides(founds).items() if lot not in (0, everyone(founds))}


def parting(founds):
    """For each cut, by the number of its lot, the lines (a, b) that part the readers so, a ahead in the lot."""
    pairs = {}
    for pair, lot in parted_sides(founds).items():
        if not is_in(0, lot):
            pairs.setdefault(lot, []).append(pair)
    return pairs
