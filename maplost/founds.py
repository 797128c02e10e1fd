"""Founds: what is found of the logs of houses."""

from maplost.errors import InvalidCount, InvalidCounts, InvalidFounds, InvalidLater, InvalidName
from maplost.texts import are_lines, is_name
from maplost.values import are_different, is_below, is_list, is_tuple

MOST_READERS = 12


def is_founds(value):
    """Whether any value is founds."""
    if not is_list(value) or not 1 <= len(value) <= MOST_READERS:
        return False
    for item in value:
        if not is_tuple(item, 2) or not are_lines(item[1]):
            return False
    return are_owns([own for own, lines in value])


def are_owns(values):
    """Whether any values of a list are owns of different readers: names, none of them twice, and None."""
    known = [own for own in values if own is not None]
    return all([is_name(own) for own in known]) and are_different(known)


def check_founds(founds):
    """Raises InvalidFounds unless the value is founds."""
    if not is_founds(founds):
        raise InvalidFounds(founds)


def names_of(founds):
    """The ascending list of the names that lines of the founds bear or that are own."""
    borne = [line[0] for own, lines in founds for line in lines]
    return sorted(set(borne + [own for own, lines in founds if own is not None]))


def check_name(founds, name):
    """Raises InvalidName unless the value is a name that a line of the founds bears or that is own."""
    if not is_name(name) or name not in names_of(founds):
        raise InvalidName(name)


def found(network, house, many):
    """What is found of a house whose log is cut off behind its first lines, so many of them."""
    log = list(network.log(house))
    if not is_below(many, len(log) + 1):
        raise InvalidCount(many)
    return (network.names[house], log[:many])


def common(founds):
    """The ascending list of the lines that all readers have."""
    check_founds(founds)
    tables = [{line: True for line in lines} for own, lines in founds]
    return [line for line in sorted(tables[0]) if all([line in table for table in tables])]


def is_whole(founds):
    """Whether all lines of the founds are common."""
    many = len(common(founds))
    return all([len(lines) == many for own, lines in founds])


def cut_back(founds, counts):
    """The founds in which each reader has only the first lines, as many as `counts` tells."""
    check_founds(founds)
    if not is_list(counts) or len(counts) != len(founds):
        raise InvalidCounts(counts)
    for count, (own, lines) in zip(counts, founds):
        if not is_below(count, len(lines) + 1):
            raise InvalidCounts(counts)
    return [(own, list(lines[:count])) for count, (own, lines) in zip(counts, founds)]


def goes_on(founds, later):
    """Whether the logs of founds go on to those of later ones."""
    check_founds(founds)
    if not is_founds(later):
        raise InvalidLater(later)
    if len(founds) != len(later):
        return False
    for (own, lines), (later_own, later_lines) in zip(founds, later):
        if own is not None and own != later_own:
            return False
        if list(lines) != list(later_lines[:len(lines)]):
            return False
    return True
