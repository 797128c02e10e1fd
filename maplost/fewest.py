"""The fewest houses of a network behind whole founds."""

from maplost.founds import check_name, names_of
from maplost.lots import parted_sides
from maplost.matches import matching, short_of
from maplost.pictures import check_fits
from maplost.places import map_of, places
from maplost.rows import is_on_side, place_lots
from maplost.values import is_ascending, is_tuple


def part(founds, name):
    """The ascending list of the places at which the house of a name can stand, by the order of its lines."""
    check_fits(founds)
    check_name(founds, name)
    return parts(founds, map_of(founds))[name]


def parts(founds, drawn):
    """The parts of all names, for the map of the founds."""
    lots = parted_sides(founds)
    told = {name: list(enumerate(place_lots(drawn))) for name in names_of(founds)}
    for (a, y), lot in lots.items():
        told[a[0]] = [(k, place) for k, place in told[a[0]] if is_on_side(place, lot, lots[(y, a)])]
    return {name: [k for k, place in told[name]] for name in told}


def empty_choices(founds, drawn):
    """For each place without readers the names, no reader's own, whose part has it."""
    owns = [own for own, lines in founds]
    homes = parts(founds, drawn)
    choices = {k: [] for k, readers in enumerate(places(drawn, len(founds))) if len(readers) == 0}
    for name in homes:
        if name not in owns:
            for k in homes[name]:
                if k in choices:
                    choices[k].append(name)
    return choices


def fewest(founds):
    """The number of houses of a network behind whole founds that has as few as can be."""
    check_fits(founds)
    unknown = [own for own, lines in founds if own is None]
    return len(names_of(founds)) + len(unknown) + nameless(empty_choices(founds, map_of(founds)))


def nameless(choices):
    """The least number of places without readers that stay without a name."""
    return len(choices) - len(matching(choices))


def names_by(choices, numbers):
    """The ascending tuple of the names that some places without readers can get."""
    return tuple(sorted({name for k in numbers for name in choices[k]}))


def why_no_fewer(founds):
    """Places without readers, and all names that they can get, that show that there are no fewer houses."""
    check_fits(founds)
    choices = empty_choices(founds, map_of(founds))
    numbers = short_of(choices)
    return (tuple(numbers), names_by(choices, numbers))


def is_why_no_fewer(founds, value):
    """Whether any value shows that there are no fewer houses."""
    check_fits(founds)
    if not is_tuple(value, 2) or type(value[0]) is not tuple:
        return False
    numbers, names = value
    choices = empty_choices(founds, map_of(founds))
    if not all([type(k) is int and k in choices for k in numbers]) or not is_ascending(numbers):
        return False
    return names == names_by(choices, numbers) and len(numbers) - len(names) == nameless(choices)
