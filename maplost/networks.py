"""Networks that run by deeds, with losses and stops."""

from maplost.errors import InvalidNames, InvalidScript, InvalidText, LostError, NothingUnderWay, Refused, Stopped, Twice
from maplost.texts import are_names, is_text
from maplost.trees import check_house, check_road, is_road
from maplost.values import is_list, is_tuple

MOST_DEEDS = 2700


class Network:
    """A tree whose houses have names, make lines, hand them on, lose them and stop."""

    def __init__(self, tree, names):
        if not are_names(names, tree.houses):
            raise InvalidNames(names)
        self.tree = tree
        self.names = tuple(names)
        self._logs = [[] for _ in names]
        # A line that comes to a house goes under way on its roads, but the one on which it came.
        self._waiting = {road: [] for road in both_ways(tree)}
        self._halted = []
        self._deeds = []

    @property
    def stopped(self):
        """The ascending tuple of the houses that have stopped."""
        return tuple(sorted(self._halted))

    @property
    def script(self):
        """The tuple of all deeds done so far."""
        return tuple(self._deeds)

    def make(self, house, text):
        """Makes a line of a house, and returns it."""
        check_house(self.tree, house)
        if not is_text(text):
            raise InvalidText(text)
        if house in self._halted:
            raise Stopped(house)
        line = (self.names[house], text)
        if line in self._logs[house]:
            raise Twice(house, text)
        self._arrive(house, line, None)
        self._deeds.append(("make", house, text))
        return line

    def hand(self, u, v):
        """Hands the next line over from u to v, and returns it."""
        check_road(self.tree, u, v)
        if u in self._halted:
            raise Stopped(u)
        if v in self._halted:
            raise Stopped(v)
        line = self._take(u, v)
        self._arrive(v, line, u)
        self._deeds.append(("hand", u, v))
        return line

    def lose(self, u, v):
        """Loses the next line on the road from u to v, and returns it."""
        check_road(self.tree, u, v)
        line = self._take(u, v)
        self._deeds.append(("lose", u, v))
        return line

    def stop(self, house):
        """Stops a house."""
        check_house(self.tree, house)
        if house in self._halted:
            raise Stopped(house)
        self._halted.append(house)
        self._deeds.append(("stop", house))

    def log(self, house):
        """The log of a house."""
        check_house(self.tree, house)
        return tuple(self._logs[house])

    def under_way(self, u, v):
        """The tuple of the lines under way from u to v, the next one first."""
        check_road(self.tree, u, v)
        return tuple(self._waiting[(u, v)])

    def _take(self, u, v):
        """Takes the next line off the road from u to v, and returns it."""
        if not self._waiting[(u, v)]:
            raise NothingUnderWay(u, v)
        return self._waiting[(u, v)].pop(0)

    def _arrive(self, house, line, source):
        """Lets a line come to the log of a house from a neighbour, or from itself if this is None."""
        self._logs[house].append(line)
        for near in self.tree.near[house]:
            if near != source:
                self._waiting[(house, near)].append(line)


def both_ways(tree):
    """The list of the roads of a tree, each in both directions."""
    return [*tree.roads, *[(v, u) for u, v in tree.roads]]


def is_deed(tree, value):
    """Whether any value is a deed of a script for the tree."""
    if is_tuple(value, 2):
        return value[0] == "stop" and value[1] in tree
    if not is_tuple(value, 3):
        return False
    if value[0] == "make":
        return value[1] in tree and is_text(value[2])
    return (value[0] == "hand" or value[0] == "lose") and is_road(tree, value[1], value[2])


def is_script(tree, value):
    """Whether any value is a script for the tree, whether or not its deeds can be done."""
    if not is_list(value) or len(value) > MOST_DEEDS:
        return False
    return all([is_deed(tree, deed) for deed in value])


def do_deed(network, deed):
    """Does one deed of a script."""
    if deed[0] == "make":
        network.make(deed[1], deed[2])
    elif deed[0] == "hand":
        network.hand(deed[1], deed[2])
    elif deed[0] == "lose":
        network.lose(deed[1], deed[2])
    else:
        network.stop(deed[1])


def run_network(tree, names, script=()):
    """A network that has done the deeds of a script."""
    network = Network(tree, names)
    if not is_script(tree, script):
        raise InvalidScript(script)
    for at, deed in enumerate(script):
        try:
            do_deed(network, deed)
        except LostError:
            raise Refused(at) from None
    return network


def hand_next(network, u, v):
    """Hands the next line over from u to v, and returns it."""
    return network.hand(u, v)


def carry_on(network, deed):
    """Does a deed that hands one line over as long as there is a road on which it can be done."""
    stopped = network.stopped
    roads = [(u, v) for u, v in both_ways(network.tree) if u not in stopped and v not in stopped]
    moved = True
    while moved:
        moved = False
        for u, v in roads:
            while network.under_way(u, v):
                deed(network, u, v)
                moved = True


def finish(network):
    """Hands lines over as long as there is a road on which this can be done."""
    carry_on(network, hand_next)
