"""Faults of cut logs: what shows that they are those of no network, and whose log would have to be put aside."""

from maplost.founds import common
from maplost.pictures import is_picture, picture


def common_part(founds):
    """The founds in which each reader has of its lines the common ones alone."""
    shared = {line: True for line in common(founds)}
    return [(own, [line for line in lines if line in shared]) for own, lines in founds]


def fault(founds):
    """None, or a picture of the common lines that shows that the founds are those of no network."""
    return picture(common_part(founds))


def is_fault(founds, value):
    """Whether any value is a picture of the common lines of the founds."""
    return is_picture(common_part(founds), value)


def culprits(founds):
    """The readers without whom the founds have no fault, if they have one."""
    if fault(founds) is None:
        return []
    return [reader for reader in range(len(founds)) if fault([*founds[:reader], *founds[reader + 1:]]) is None]
