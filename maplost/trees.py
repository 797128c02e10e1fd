"""Trees of houses and roads."""

from maplost.errors import InvalidHouse, InvalidHouses, InvalidRoads, InvalidText, LostError, NotARoad, NotJoined
from maplost.values import is_ascending, is_below, is_int, is_list, is_number, is_tuple

MOST_HOUSES = 64
FIGURES = 2


class Tree:
    """A tree of houses, the integers from 0 on, that are joined by roads."""

    def __init__(self, houses, roads):
        if not is_int(houses) or not 1 <= houses <= MOST_HOUSES:
            raise InvalidHouses(houses)
        if not are_roads(houses, roads):
            raise InvalidRoads(roads)
        near = houses_near(houses, roads)
        joined = houses_from(near, 0, None)
        for house in range(houses):
            if house not in joined:
                raise NotJoined(house)
        self.houses = houses
        self.roads = tuple(roads)
        self.near = near

    def __len__(self):
        return len(self.near)

    def __contains__(self, value):
        return is_below(value, self.houses)

    def __eq__(self, other):
        return isinstance(other, Tree) and self.houses == other.houses and self.roads == other.roads

    def line(self):
        """The tree as one line of text."""
        words = [f"{self.houses}:"]
        words.extend([f"{u}-{v}" for u, v in self.roads])
        return " ".join(words)


def are_roads(houses, value):
    """Whether any value is a list of as many ascending roads as a tree of so many houses has."""
    if not is_list(value) or len(value) != houses - 1:
        return False
    for road in value:
        if not is_tuple(road, 2) or not is_below(road[0], houses) or not is_below(road[1], houses):
            return False
        if road[0] >= road[1]:
            return False
    return is_ascending(value)


def houses_near(houses, roads):
    """The tuple that has for each house the tuple of its neighbours, ascending as the roads are."""
    near = [[] for _ in range(houses)]
    for u, v in roads:
        near[u].append(v)
        near[v].append(u)
    return tuple([tuple(row) for row in near])


def houses_from(near, start, barred):
    """The houses to which ways lead from a house not over the barred one, each with the house before it."""
    before = {start: start}
    fresh = [start]
    while fresh:
        house = fresh.pop()
        for other in near[house]:
            if other != barred and other not in before:
                before[other] = house
                fresh.append(other)
    return before


def check_house(tree, house):
    """Raises InvalidHouse unless the value is a house of the tree."""
    if house not in tree:
        raise InvalidHouse(house)


def check_road(tree, u, v):
    """Raises the errors of a road between u and v."""
    check_house(tree, u)
    check_house(tree, v)
    if v not in tree.near[u]:
        raise NotARoad(u, v)


def is_road(tree, u, v):
    """Whether any two values are neighbours in the tree."""
    return u in tree and v in tree and v in tree.near[u]


def neighbours(tree, house):
    """The ascending list of the neighbours of a house."""
    check_house(tree, house)
    return list(tree.near[house])


def way(tree, a, b):
    """The tuple of the houses on the way from a to b."""
    check_house(tree, a)
    check_house(tree, b)
    toward = houses_from(tree.near, b, None)
    houses = [a]
    while houses[-1] != b:
        houses.append(toward[houses[-1]])
    return tuple(houses)


def on_way(tree, a, b, house):
    """Whether a house is on the way from a to b."""
    houses = way(tree, a, b)
    check_house(tree, house)
    return house in houses


def side(tree, u, v):
    """The ascending list of the houses on u's side of the road between u and v."""
    check_road(tree, u, v)
    return sorted(houses_from(tree.near, u, v))


def read_tree(text):
    """The tree that has this line."""
    if type(text) is not str:
        raise InvalidText(text)
    head, *words = text.split(" ")
    if not is_number(head[:-1], FIGURES):
        raise InvalidText(text)
    try:
        tree = Tree(int(head[:-1]), [road_of(word) for word in words])
    except LostError:
        raise InvalidText(text) from None
    if tree.line() != text:
        raise InvalidText(text)
    return tree


def road_of(word):
    """The two houses of a word like 0-1, or None if it is no such word."""
    first, _, second = word.partition("-")
    # Numbers of too many figures are refused before they are read: they can be longer than int allows.
    if not is_number(first, FIGURES) or not is_number(second, FIGURES):
        return None
    return (int(first), int(second))


def foot(tree, a, b, house):
    """The house at which the way from a house meets the way from a to b."""
    houses = way(tree, a, b)
    return [near for near in way(tree, house, a) if near in houses][0]
