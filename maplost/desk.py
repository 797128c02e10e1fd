"""A desk that is told the logs of readers bit by bit and keeps the map of what it has."""

from maplost.errors import Clash, InvalidCount, InvalidIndex, InvalidLines, InvalidOwns, Stopped
from maplost.founds import MOST_READERS, are_owns
from maplost.places import map_of
from maplost.texts import is_line
from maplost.values import are_different, is_below, is_int, is_list


class Desk:
    """What is known of the logs of some readers, and the map of this."""

    def __init__(self, owns):
        if not is_list(owns) or not 1 <= len(owns) <= MOST_READERS or not are_owns(owns):
            raise InvalidOwns(owns)
        self._owns = tuple(owns)
        self._logs = [[] for _ in owns]
        # For each cut the number of roads that it had at the last call of `news`.
        self._known = {}

    @property
    def owns(self):
        """The tuple of the owns of the readers."""
        return self._owns

    def come(self, reader, start, lines):
        """Takes in lines that stand in the log of a reader from an index on; the number of those that are new."""
        if not is_below(reader, len(self._logs)):
            raise InvalidIndex(reader)
        check_count(start)
        if not is_list(lines) or not all([is_line(line) for line in lines]):
            raise InvalidLines(lines)
        log = self._logs[reader]
        if start > len(log):
            return 0
        many = len(log) - start
        if list(lines[:many]) != log[start:start + len(lines)]:
            raise Clash(reader)
        added = list(lines[many:])
        if not are_different(log + added):
            raise Clash(reader)
        log.extend(added)
        return len(added)

    def founds(self):
        """The founds that the desk has."""
        return [(own, list(log)) for own, log in zip(self._owns, self._logs)]

    def map(self):
        """The map of the founds that the desk has."""
        return map_of(self.founds())

    def asks(self):
        """For each reader the index of the line that the desk has to be told next."""
        return [len(log) for log in self._logs]

    def news(self):
        """The cuts that have more roads than at the last call, each with the number of then and that of now."""
        drawn = self.map()
        told = [(lot, self._known.get(lot, 0), roads) for lot, roads, arrows in drawn]
        self._known = {lot: roads for lot, roads, arrows in drawn}
        return [(lot, elder, roads) for lot, elder, roads in told if roads > elder]


def check_count(value):
    """Raises InvalidCount unless the value is an integer from 0 on."""
    if not is_int(value) or value < 0:
        raise InvalidCount(value)


def answer(network, house, start=0, *, most=40):
    """The lines of the log of a house from an index on, or the first ones of these, so many of them."""
    log = network.log(house)
    if house in network.stopped:
        raise Stopped(house)
    check_count(start)
    check_count(most)
    return list(log[start:start + most])
