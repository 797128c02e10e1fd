"""Points 101 and 102: true maps, and the main theorem."""

from maplost.cuts import comes_of, is_map
from maplost.errors import InvalidNames, InvalidSeats
from maplost.places import map_of
from maplost.trees import Tree, on_way, side
from maplost.truth import meets, true_map
from tests.helpers import (
    Case, any_values, frozen, house_names, lists_in, path, random_found, random_network, random_tree, seeded,
)

TREE = Tree(4, [(0, 1), (1, 2), (1, 3)])
NAMES = ["ann", "bo", "cy", "dee"]


def slow_true_map(tree, names, seats):
    """The true map as the words of point 8 tell it: both directions of each road are tried."""
    told = {}
    for u, v in [*tree.roads, *[(v, u) for u, v in tree.roads]]:
        near, far = side(tree, u, v), side(tree, v, u)
        lot = tuple(k for k, seat in enumerate(seats) if seat in near)
        if lot and 0 not in lot:
            roads, arrows = told.setdefault(lot, (set(), set()))
            roads.add(tuple(sorted((u, v))))
            arrows |= {(names[a], names[b]) for a in near for b in far}
    return sorted((lot, len(roads), tuple(sorted(arrows))) for lot, (roads, arrows) in told.items())


class TestTrueMap(Case):
    def test_by_the_words(self):
        dice = seeded(81)
        for _ in range(300):
            houses = dice.randrange(1, 20)
            tree, names = random_tree(dice, houses), house_names(houses)
            seats = dice.sample(range(houses), dice.randrange(1, min(12, houses) + 1))
            told = true_map(tree, names, seats)
            self.assertIs(type(told), list)
            self.assertEqual(told, slow_true_map(tree, names, seats))
            self.assertIs(is_map(told, len(seats)), True)
            self.assertEqual(told, true_map(seats=tuple(seats), names=tuple(names), tree=tree))

    def test_edges(self):
        self.assertEqual([true_map(Tree(1, []), ["a"], [0]), true_map(TREE, NAMES, [1])], [[], []])
        self.assertEqual(true_map(TREE, NAMES, [0, 1, 2, 3]), slow_true_map(TREE, NAMES, [0, 1, 2, 3]))
        self.assertEqual(true_map(path(2), ["b", "a"], [1, 0]), [((1,), 1, (("b", "a"),))])
        names = house_names(64)
        long = true_map(path(64), names, [0, 63])
        self.assertEqual([cut[:2] for cut in long], [((1,), 63)])
        self.assertEqual(set(long[0][2]), {(b, a) for k, a in enumerate(names) for b in names[k + 1:]})
        seats = [63, *range(0, 55, 5)]
        self.assertEqual(len(seats), 12)
        twelve = true_map(path(64), names, seats)
        self.assertEqual([sum(roads for lot, roads, arrows in twelve), len(twelve)], [63, 11])
        star = Tree(64, [(0, k) for k in range(1, 64)])
        told = true_map(star, names, list(range(1, 13)))
        self.assertEqual([cut[:2] for cut in told], sorted([*[((k,), 1) for k in range(1, 12)], (tuple(range(1, 12)), 1)]))

    def test_errors(self):
        wrong_names = [NAMES[:3], [*NAMES, "eve"], ["ann", "ann", "cy", "dee"], ["ann", "bo", "cy", "Dee"], ["ann", "bo", "cy", None],
                       "abcd", {"a": 1}, [["ann"], "bo", "cy", "dee"]]
        for names in [*wrong_names, *any_values()]:
            self.raises(InvalidNames, {"given": names}, true_map, TREE, names, None)
        wrong_seats = [[], (), [4], [-1], [0, 0], [0, True], [False], [None], [0, 1, 2, 3, 0], [[0]], "0", 0, {0: 1}, [0, 4]]
        fine = [(0, 1)]
        for seats in [*wrong_seats, *[value for value in any_values() if value not in fine or type(value[0]) is bool]]:
            self.raises(InvalidSeats, {"given": seats}, true_map, TREE, NAMES, seats)
            self.raises(InvalidSeats, {"given": seats}, meets, TREE, seats)
        thirteen = list(range(13))
        self.raises(InvalidSeats, {"given": thirteen}, true_map, path(13), house_names(13), thirteen)
        self.raises(InvalidSeats, {"given": thirteen}, meets, path(13), thirteen)
        self.assertEqual([len(true_map(path(13), house_names(13), thirteen[:12])), meets(path(13), thirteen[:12])], [11, thirteen[:12]])

    def test_new_lists(self):
        seats = [0, 2]
        told = true_map(TREE, NAMES, seats)
        self.assertEqual(len(lists_in(told)), 1)
        told.clear()
        self.assertEqual(len(true_map(TREE, NAMES, seats)), 1)
        self.assertEqual([seats, NAMES], [[0, 2], ["ann", "bo", "cy", "dee"]])


class TestMeets(Case):
    def test_by_the_words(self):
        dice = seeded(82)
        for _ in range(200):
            houses = dice.randrange(1, 16)
            tree = random_tree(dice, houses)
            seats = dice.sample(range(houses), dice.randrange(1, min(12, houses) + 1))
            expected = [house for house in range(houses) if any(on_way(tree, a, b, house) for a in seats for b in seats)]
            told = meets(seats=seats, tree=tree)
            self.assertEqual(told, expected)
            told.append(1)
            self.assertEqual(meets(tree, tuple(seats)), expected)


class TestMainTheorem(Case):
    def test_maps_come_of_true_maps(self):
        dice = seeded(83)
        seen = {"cuts": 0, "all": 0}
        for k in range(500):
            loss = dice.choice([0, 0, 0.05, 0.2])
            network = random_network(dice, dice.randrange(1, 11), 20, loss)
            seats = dice.sample(range(len(network.tree)), dice.randrange(1, min(len(network.tree), 6) + 1))
            founds = [random_found(dice, network, house, dice.random() < 0.8) for house in seats]
            if k % 2:
                founds = [(own, list(network.log(house))) for (own, lines), house in zip(founds, seats)]
            before = frozen(founds)
            drawn, true = map_of(founds), true_map(network.tree, network.names, seats)
            self.assertIs(comes_of(drawn, true, len(seats)), True)
            self.assertEqual(frozen(founds), before)
            seen["cuts"] += len(drawn) > 0
            seen["all"] += len(drawn) == len(true) > 0
        self.assertGreater(min(seen.values()), 20, seen)

    def test_large(self):
        dice = seeded(84)
        for _ in range(3):
            network = random_network(dice, 64, 40, 0.02)
            seats = dice.sample(range(64), 12)
            founds = [random_found(dice, network, house) for house in seats]
            self.assertIs(comes_of(map_of(founds), true_map(network.tree, network.names, seats), 12), True)
