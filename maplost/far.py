"""How far the house of a name is from a reader at least, and which names are surely apart."""

from maplost.arrows import names_at
from maplost.chains import heights, reached
from maplost.cuts import cut_with
from maplost.errors import InvalidIndex, InvalidName
from maplost.founds import check_name
from maplost.lots import everyone, is_in, is_within, lot_of, parted_sides, readers_of
from maplost.pictures import check_fits
from maplost.places import map_of
from maplost.values import is_below


def far(founds, reader, name):
    """The least number of roads between the house of a reader and that of a name."""
    check_far(founds, reader, name)
    if founds[reader][0] == name:
        return 0
    return max([1, *[number for near, number in numbers_at(founds, reader, name)]])


def check_far(founds, reader, name):
    """Raises the errors of `far`."""
    check_fits(founds)
    if not is_below(reader, len(founds)):
        raise InvalidIndex(reader)
    check_name(founds, name)


def numbers_at(founds, reader, name):
    """The tuples (near, number) of the near lots of the cuts at which a name has a number, and of these."""
    seen = seen_cuts(founds, reader)
    told = []
    for near, roads, arrows in seen:
        last = last_steps(founds, near, roads, arrows, name)
        if last > 0:
            before = [others for lot, others, _ in seen if lot != near and is_within(lot, near)]
            told.append((near, sum(before) + last))
    return told


def seen_cuts(founds, reader):
    """The cuts as a reader sees them: the number of the near lot, the roads, and the arrows from it outward."""
    seen = []
    for readers, roads, arrows in map_of(founds):
        lot = lot_of(readers)
        if is_in(reader, lot):
            seen.append((lot, roads, arrows))
        else:
            seen.append((everyone(founds) & ~lot, roads, tuple([(b, a) for a, b in arrows])))
    return seen


def last_steps(founds, near, roads, arrows, name):
    """By how many roads of a cut a name is behind its near lot, 0 if it has no number at the cut."""
    owners = [reader for reader, (own, lines) in enumerate(founds) if own == name]
    if owners and not is_in(owners[0], near):
        return roads
    return heights(names_at(arrows), arrows).get(name, 0)


def why_far(founds, reader, name):
    """None if a name may be in the next house, or the near lot of a cut that shows how far it is."""
    most = far(founds, reader, name)
    if most < 2:
        return None
    return [readers_of(near) for near, number in numbers_at(founds, reader, name) if number == most][0]


def is_why_far(founds, reader, name, value):
    """Whether any value shows how far a name is at least."""
    most = far(founds, reader, name)
    if most < 2:
        return value is None
    if type(value) is not tuple or not all([is_below(k, len(founds)) for k in value]):
        return False
    return value in [readers_of(near) for near, number in numbers_at(founds, reader, name) if number == most]


def surely_apart(founds, lot, first, second):
    """Whether some road that parts the readers of a cut from all others surely parts the houses of two names so."""
    check_fits(founds)
    arrows = cut_with(founds, lot)[2]
    check_name(founds, first)
    check_name(founds, second)
    if first == second:
        raise InvalidName(second)
    if second in reached(arrows, first):
        return True
    near = lot_of(lot)
    others = everyone(founds) & ~near
    from_first = any([a == first for a, b in arrows])
    to_second = any([b == second for a, b in arrows])
    first_at_end, second_at_end = is_at_end(founds, near, first), is_at_end(founds, others, second)
    return first_at_end and (second_at_end or to_second) or second_at_end and from_first


def is_at_end(founds, lot, name):
    """Whether a name is at the end of a lot: the own of one of its readers, or held by fewer of them alone."""
    if any([own == name and is_in(reader, lot) for reader, (own, lines) in enumerate(founds)]):
        return True
    sides = parted_sides(founds)
    return any([a[0] == name and sides[(a, y)] != lot and is_within(sides[(a, y)], lot) for a, y in sides])
