"""A watch: a desk that asks the houses of a network for their logs by letters, which may be lost and come late."""

from maplost.desk import Desk
from maplost.errors import InvalidIndex, NoLetter
from maplost.truth import check_seats
from maplost.values import is_below


class Watch:
    """A desk for readers who sit in houses of a network, and the letters under way between it and the houses."""

    def __init__(self, network, seats):
        check_seats(network.tree, seats)
        self._network = network
        self._seats = tuple(seats)
        self._desk = Desk([network.names[seat] for seat in seats])
        self._letters = []

    @property
    def letters(self):
        """The letters under way, in the order in which they were sent."""
        return list(self._letters)

    def ask(self, reader):
        """Sends a letter that asks the house of a reader for what the desk does not have of its log."""
        if not is_below(reader, len(self._seats)):
            raise InvalidIndex(reader)
        self._letters.append(("ask", reader, self._desk.asks()[reader]))

    def bring(self, k):
        """Delivers a letter: a house answers it unless it has stopped, and the desk takes its lines in."""
        letter = self._take(k)
        reader, have = letter[1], letter[2]
        if letter[0] == "tell":
            self._desk.come(reader, have, letter[3])
        elif self._seats[reader] not in self._network.stopped:
            self._letters.append(("tell", reader, have, self._network.log(self._seats[reader])[have:]))

    def drop(self, k):
        """Loses a letter."""
        self._take(k)

    def double(self, k):
        """Sends a letter once more."""
        self._check_letter(k)
        self._letters.append(self._letters[k])

    def founds(self):
        """The founds that the desk has."""
        return self._desk.founds()

    def map(self):
        """The map of the founds that the desk has."""
        return self._desk.map()

    def _check_letter(self, k):
        """Raises NoLetter unless the value is the index of a letter under way."""
        if not is_below(k, len(self._letters)):
            raise NoLetter(k)

    def _take(self, k):
        """Takes a letter out of those under way, and returns it."""
        self._check_letter(k)
        return self._letters.pop(k)


def gather(watch):
    """Asks for the logs of all readers and brings all letters; the number of lines by which the founds grew."""
    before = lines_had(watch)
    for reader in range(len(watch.founds())):
        watch.ask(reader)
    while watch.letters:
        watch.bring(0)
    return lines_had(watch) - before


def lines_had(watch):
    """The number of lines that the desk of a watch has."""
    return sum([len(lines) for own, lines in watch.founds()])
