"""Scripts behind which the logs of the houses are given rows of lines."""

from maplost.errors import InvalidNames, InvalidRows, NotRight
from maplost.networks import Network, both_ways
from maplost.texts import are_lines, are_names
from maplost.trees import neighbours, side
from maplost.values import is_list


def script_behind(tree, names, rows):
    """A script behind which the log of each house is its row."""
    if not are_names(names, tree.houses):
        raise InvalidNames(names)
    if not are_rows(names, rows):
        raise InvalidRows(rows)
    homes = {name: house for house, name in enumerate(names)}
    for road in both_ways(tree):
        lines = wrong_at(tree, homes, rows, road)
        if lines is not None:
            raise NotRight(road, lines)
    network = Network(tree, names)
    fill(network, homes, rows)
    return list(network.script)


def are_rows(names, value):
    """Whether any value is rows for houses of these names."""
    if not is_list(value) or len(value) != len(names):
        return False
    if not all([are_lines(row) for row in value]):
        return False
    return all([line[0] in names for row in value for line in row])


def wrong_at(tree, homes, rows, road):
    """None if the rows are right from u to v, or the lines that show that they are not."""
    u, v = road
    near = {house: True for house in side(tree, u, v)}
    place = {line: k for k, line in enumerate(rows[u])}
    for line in rows[v]:
        if homes[line[0]] in near and line not in place:
            return (line,)
    shared = [line for line in rows[v] if line in place]
    for k, b in enumerate(shared):
        for a in shared[k + 1:]:
            if place[a] < place[b] and (homes[a[0]] not in near or homes[b[0]] in near):
                return (a, b)
    return None


def fill(network, homes, rows):
    """Does deeds until the log of each house is its row; the rows are right at all roads."""
    sources = [sources_of(network.tree, house) for house in range(len(rows))]
    places = [{line: k for k, line in enumerate(row)} for row in rows]
    done = [0 for _ in rows]
    moved = True
    while moved:
        moved = False
        for house, row in enumerate(rows):
            while done[house] < len(row):
                line = row[done[house]]
                source = sources[house][homes[line[0]]]
                if source is not None and places[source][line] >= done[source]:
                    break
                bring_line(network, house, source, line)
                done[house] += 1
                moved = True


def sources_of(tree, house):
    """For each house the neighbour from which its lines come to a house, None for this house itself."""
    sources = [None for _ in range(tree.houses)]
    for near in neighbours(tree, house):
        for other in side(tree, near, house):
            sources[other] = near
    return sources


def bring_line(network, house, source, line):
    """Brings a line to a house: makes it there, or hands it over when what stands ahead of it is lost."""
    if source is None:
        network.make(house, line[1])
        return
    while network.under_way(source, house)[0] != line:
        network.lose(source, house)
    network.hand(source, house)
