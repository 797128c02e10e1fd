"""Whole founds, and the pictures that show that no network can have left them."""

from maplost.chains import is_chain
from maplost.cuts import arrows_by, cross, is_cross, is_lot, ring_by
from maplost.errors import Fitless, NotWhole
from maplost.founds import check_founds, common
from maplost.lots import everyone, is_in, lot_of, parted_sides, parting, readers_of, sides
from maplost.texts import is_line, is_name
from maplost.values import are_different, is_below, is_tuple


def check_whole(founds):
    """Raises the errors of founds that are to be whole."""
    check_founds(founds)
    many = len({line for own, lines in founds for line in lines})
    for reader, (own, lines) in enumerate(founds):
        if len(lines) < many:
            raise NotWhole(reader)


def check_fits(founds):
    """Raises the errors of whole founds that are to be those of some ended network."""
    shown = picture(founds)
    if shown is not None:
        raise Fitless(shown)


def find_cross(founds):
    """None, or a picture of cuts that cross."""
    shown = cross(founds)
    return None if shown is None else ("cross", *shown)


def find_three(founds):
    """None, or a picture of three lines in a ring."""
    lines = common(founds)
    lots = sides(founds)
    for k, a in enumerate(lines):
        # The least of the three lines stands first, the others in both orders.
        for b in lines[k + 1:]:
            for c in lines[k + 1:]:
                if b != c and lots[(a, b)] & lots[(b, c)] != 0:
                    orders = [lots[(a, b)] & lots[(b, c)], lots[(b, c)] & lots[(c, a)], lots[(c, a)] & lots[(a, b)]]
                    if 0 not in orders:
                        return ("three", (a, b, c), tuple([readers_of(lot)[0] for lot in orders]))
    return None


def find_homeless(founds):
    """None, or a picture of a name without a place."""
    shown = {}
    for (a, y), lot in parted_sides(founds).items():
        shown.setdefault(a[0], {}).setdefault(lot, (a, y))
    for pairs in list(shown.values()):
        for lot in pairs:
            for other in pairs:
                rest = everyone(founds) & ~(lot | other)
                if lot & other == 0 and rest != 0:
                    return ("homeless", *pairs[lot], *pairs[other], readers_of(rest)[0])
    return None


def find_away(founds):
    """None, or a picture of a reader away from the house of the own name."""
    readers = {own: reader for reader, (own, lines) in enumerate(founds) if own is not None}
    for (a, y), lot in parted_sides(founds).items():
        if a[0] in readers and not is_in(readers[a[0]], lot):
            return ("away", readers[a[0]], a, y)
    return None


def find_ringed(founds):
    """None, or a picture of names in a ring by the arrows of one cut."""
    for lot, pairs in parting(founds).items():
        names = ring_by(arrows_by(pairs))
        if names is not None:
            return ("ringed", readers_of(lot), names)
    return None


def picture(founds):
    """None, or a picture that shows that no network can have left the whole founds."""
    check_whole(founds)
    shown = find_cross(founds)
    if shown is None:
        shown = find_three(founds)
    if shown is None:
        shown = find_homeless(founds)
    if shown is None:
        shown = find_away(founds)
    if shown is None:
        shown = find_ringed(founds)
    return shown


def fits(founds):
    """Whether whole founds are those of some ended network."""
    return picture(founds) is None


def is_picture(founds, value):
    """Whether any value is a picture of the founds."""
    check_whole(founds)
    if type(value) is not tuple or len(value) == 0:
        return False
    word, rest = value[0], value[1:]
    if word == "cross":
        return is_cross(founds, rest)
    if word == "three":
        return is_three(founds, rest)
    if word == "homeless":
        return is_homeless(founds, rest)
    if word == "away":
        return is_away(founds, rest)
    return word == "ringed" and is_ringed(founds, rest)


def is_three(founds, value):
    """Whether any tuple is three lines in a ring, and the readers who show it."""
    if not is_tuple(value, 2) or not is_tuple(value[0], 3) or not is_tuple(value[1], 3):
        return False
    lines, readers = value
    if not all([is_below(reader, len(founds)) for reader in readers]):
        return False
    orders = [[line for line in founds[reader][1] if line in lines] for reader in readers]
    return orders == [[*lines[k:], *lines[:k]] for k in range(3)]


def is_homeless(founds, value):
    """Whether any tuple is lines of a name without a place, and a reader who is on neither side."""
    if not is_tuple(value, 5) or not is_below(value[4], len(founds)):
        return False
    a, y, c, z, reader = value
    lots = parted_sides(founds)
    if not is_pair(lots, a, y) or not is_pair(lots, c, z) or a[0] != c[0]:
        return False
    lot, other = lots[(a, y)], lots[(c, z)]
    return lot & other == 0 and not is_in(reader, lot | other)


def is_pair(lots, a, y):
    """Whether any two values are two lines that have a lot."""
    return is_line(a) and is_line(y) and (a, y) in lots


def is_away(founds, value):
    """Whether any tuple is a reader, and lines that show that the reader is away from the house of the own name."""
    if not is_tuple(value, 3) or not is_below(value[0], len(founds)):
        return False
    reader, a, y = value
    lots = parted_sides(founds)
    return is_pair(lots, a, y) and a[0] == founds[reader][0] and not is_in(reader, lots[(a, y)])


def is_ringed(founds, value):
    """Whether any tuple is the lot of a cut, and names that are in a ring by its arrows."""
    if not is_tuple(value, 2) or not is_lot(value[0], len(founds)) or type(value[1]) is not tuple:
        return False
    lot, names = value
    if len(names) == 0 or not all([is_name(name) for name in names]) or not are_different(names):
        return False
    return is_chain(arrows_by(parting(founds).get(lot_of(lot), [])), (*names, names[0]))
