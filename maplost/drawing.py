"""Drawings: the smallest networks behind whole founds."""

from maplost.fewest import empty_choices, fewest, parts
from maplost.founds import names_of
from maplost.matches import matching
from maplost.networks import both_ways
from maplost.pictures import check_fits
from maplost.places import map_of, places, ways
from maplost.plans import are_seat_names, fresh_name, is_plan, network_behind
from maplost.rows import counts_by, rows_at, rows_between
from maplost.runs import script_behind
from maplost.trees import Tree
from maplost.truth import sides_by_lot


class Sketch:
    """A tree that grows: each house has a name, a row of lines, and roads to elder houses."""

    def __init__(self, used):
        self.names = []
        self.rows = []
        self.joined = []
        self.used = list(used)

    def stand(self, name, row):
        """Adds a house with a name, a fresh one if it is None, and a row; the number of the house."""
        if name is None:
            name = fresh_name(self.used)
        self.used.append(name)
        self.names.append(name)
        self.rows.append(list(row))
        return len(self.names) - 1

    def link(self, house, other):
        """Joins two houses by a road."""
        self.joined.append((min(house, other), max(house, other)))

    def hang(self, name, house):
        """Adds a house beside another one, with the same row; the number of the house."""
        added = self.stand(name, self.rows[house])
        self.link(added, house)
        return added


def drawing(founds):
    """A tree, names, seats and a script that leaves the whole founds, with as few houses as can be."""
    check_fits(founds)
    drawn = map_of(founds)
    sketch = Sketch(names_of(founds))
    seats = draw_places(sketch, founds, drawn)
    for cut, way in zip(drawn, ways(drawn, len(founds))):
        draw_way(sketch, founds, cut[2], way)
    hang_rest(sketch, founds, drawn)
    tree = Tree(len(sketch.names), sorted(sketch.joined))
    return (tree, list(sketch.names), seats, script_behind(tree, sketch.names, sketch.rows))


def draw_places(sketch, founds, drawn):
    """Adds the houses of the places and of all readers; the tuple of the seats."""
    named = {k: name for name, k in matching(empty_choices(founds, drawn)).items()}
    homes = places(drawn, len(founds))
    seats = {}
    rows = rows_at(founds, drawn)
    for k, readers in enumerate(homes):
        if readers:
            seats[readers[0]] = sketch.stand(founds[readers[0]][0], rows[k])
        else:
            sketch.stand(named.get(k), rows[k])
    for k, readers in enumerate(homes):
        for reader in readers[1:]:
            seats[reader] = sketch.hang(founds[reader][0], k)
    return tuple([seats[reader] for reader in range(len(founds))])


def draw_way(sketch, founds, arrows, way):
    """Adds the houses on the roads of a cut, and beside them the houses of the other names between."""
    near, far, roads = way
    counts = counts_by(founds, arrows)
    sources = [a for a, b in arrows]
    last = far
    rows = rows_between(sketch.rows[far], sketch.rows[near], counts, roads)
    for t, row in enumerate(rows):
        # A longest row has a name at each house between, so none of these houses needs a name of its own. A name
        # with such a count from which no arrow leads can hang behind all of these roads, as its part tells.
        names = [name for name in counts if counts[name] == t + 1 and name in sources]
        house = sketch.stand(names[0], row)
        sketch.link(last, house)
        for name in names[1:]:
            sketch.hang(name, house)
        last = house
    sketch.link(last, near)


def hang_rest(sketch, founds, drawn):
    """Adds the houses of all names that have none yet, each beside a place of its part."""
    homes = parts(founds, drawn)
    for name in homes:
        if name not in sketch.names:
            sketch.hang(name, homes[name][0])


def is_behind(founds, value):
    """Whether any value is a network that leaves the whole founds."""
    check_fits(founds)
    if not is_plan(value, len(founds)) or not are_seat_names(founds, value[1], value[2]):
        return False
    network = network_behind(value)
    if network is None or not is_ended(network):
        return False
    return all([network.log(seat) == tuple(lines) for seat, (own, lines) in zip(value[2], founds)])


def is_ended(network):
    """Whether nothing was lost, no house has stopped, and nothing is under way."""
    if any([deed[0] in ("lose", "stop") for deed in network.script]):
        return False
    return all([network.under_way(u, v) == () for u, v in both_ways(network.tree)])


def is_drawing(founds, value):
    """Whether any value is a network that leaves the whole founds, of their map, and with as few houses as can be."""
    if not is_behind(founds, value) or len(value[0]) != fewest(founds):
        return False
    parted = sides_by_lot(value[0], value[2])
    told = [(lot, len(parted[lot])) for lot in sorted(parted) if not parts_equal(founds, lot)]
    return told == [(lot, roads) for lot, roads, arrows in map_of(founds)]


def parts_equal(founds, lot):
    """Whether a lot has one of two readers with equal lines and not the other one."""
    inside = [tuple(lines) for reader, (own, lines) in enumerate(founds) if reader in lot]
    return any([tuple(lines) in inside for reader, (own, lines) in enumerate(founds) if reader not in lot])
