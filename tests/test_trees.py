"""Points 31 to 36: trees."""

from maplost.errors import InvalidHouse, InvalidHouses, InvalidRoads, InvalidText, NotARoad, NotJoined
from maplost.trees import Tree, foot, neighbours, on_way, read_tree, side, way
from tests.helpers import Case, any_values, path, random_tree, seeded

STAR = [(0, k) for k in range(1, 64)]


class TestTree(Case):
    def test_sizes(self):
        self.assertEqual([len(Tree(1, [])), Tree(1, []).houses, Tree(1, ()).roads], [1, 1, ()])
        for tree in [path(64), Tree(64, STAR)]:
            self.assertEqual([len(tree), tree.houses, len(tree.roads)], [64, 64, 63])
        self.assertEqual(Tree(64, STAR).roads, tuple(STAR))
        self.assertEqual(Tree(houses=2, roads=((0, 1),)).roads, ((0, 1),))

    def test_roads_are_a_tuple_of_their_own(self):
        roads = [(0, 1), (1, 2)]
        tree = Tree(3, roads)
        roads.append((2, 3))
        self.assertEqual(tree.roads, ((0, 1), (1, 2)))
        self.assertIs(type(tree.roads), tuple)

    def test_invalid_houses(self):
        for value in any_values():
            if not (type(value) is int and 1 <= value <= 64):
                self.raises(InvalidHouses, {"given": value}, Tree, value, [])
                self.raises(InvalidHouses, {"given": value}, Tree, value, None)
        self.raises(InvalidHouses, {"given": 65}, Tree, 65, [(k, k + 1) for k in range(64)])

    def test_invalid_roads(self):
        wrong = [[], [(0, 1)], [(0, 1), (1, 2), (2, 3)], [(0, 1), (0, 1)], [(0, 1), (2, 1)], [(0, 1), (1, 3)],
                 [(0, 2), (0, 1)], [(0, 1), (1, 1)], [(-1, 0), (0, 1)], [[0, 1], (1, 2)], [(0, 1), [1, 2]],
                 [(0, 1, 2), (1, 2)], [(0,), (1, 2)], [(False, 1), (1, 2)], [(0, True), (1, 2)], [(0, True), (True, 2)],
                 ["01", "12"], [("0", 1), (1, 2)], [None, None], [(0, 1), None], {"a": 1, "b": 2}, "ab"]
        for roads in wrong:
            self.raises(InvalidRoads, {"given": roads}, Tree, 3, roads)
        for value in any_values():
            if value != [(0, 1)] and value != ((0, 1),):
                self.raises(InvalidRoads, {"given": value}, Tree, 2, value)

    def test_not_joined(self):
        self.raises(NotJoined, {"house": 3}, Tree, 4, [(0, 1), (0, 2), (1, 2)])
        self.raises(NotJoined, {"house": 1}, Tree, 5, [(0, 4), (1, 2), (1, 3), (2, 3)])
        self.raises(NotJoined, {"house": 2}, Tree, 6, [(0, 1), (2, 3), (2, 4), (3, 4), (3, 5)])

    def test_contains(self):
        tree = path(5)
        for value in any_values():
            self.assertIs(value in tree, type(value) is int and 0 <= value < 5)
        self.assertTrue(4 in tree)
        self.assertFalse(5 in tree)

    def test_equal(self):
        self.assertTrue(Tree(3, [(0, 1), (0, 2)]) == Tree(3, ((0, 1), (0, 2))))
        self.assertFalse(Tree(3, [(0, 1), (0, 2)]) == Tree(3, [(0, 1), (1, 2)]))
        self.assertTrue(Tree(3, [(0, 1), (0, 2)]) != Tree(3, [(0, 2), (1, 2)]))
        self.assertFalse(path(3) == path(4))
        for value in any_values():
            self.assertIs(path(3) == value, False)
            self.assertIs(value == path(3), False)


class TestWays(Case):
    def setUp(self):
        dice = seeded(5)
        self.trees = [Tree(1, []), path(64), Tree(64, STAR), *[random_tree(dice, houses) for houses in range(2, 12)]]

    def test_neighbours(self):
        for tree in self.trees:
            for house in range(len(tree)):
                near = [v for u, v in tree.roads if u == house] + [u for u, v in tree.roads if v == house]
                self.assertEqual(neighbours(tree, house), sorted(near))
        self.assertEqual(neighbours(house=0, tree=Tree(1, [])), [])
        tree = path(3)
        neighbours(tree, 1).append(7)
        self.assertEqual(neighbours(tree, 1), [0, 2])

    def test_way(self):
        for tree in self.trees:
            for a in range(0, len(tree), 1 if len(tree) < 20 else 9):
                for b in range(len(tree)):
                    houses = way(tree, a, b)
                    self.assertIs(type(houses), tuple)
                    self.assertEqual((houses[0], houses[-1]), (a, b))
                    self.assertEqual(len(set(houses)), len(houses))
                    for pair in zip(houses, houses[1:]):
                        self.assertIn(tuple(sorted(pair)), tree.roads)
                    self.assertEqual([house for house in range(len(tree)) if on_way(tree, a, b, house)], sorted(houses))

    def test_side(self):
        for tree in self.trees:
            for u, v in tree.roads:
                near, far = side(tree, u, v), side(tree, v, u)
                self.assertEqual(near, [house for house in range(len(tree)) if u in way(tree, house, v)])
                self.assertEqual(sorted(near + far), list(range(len(tree))))
        self.assertEqual(side(u=1, tree=path(3), v=2), [0, 1])

    def test_foot(self):
        for tree in self.trees:
            if len(tree) < 20:
                for a in range(len(tree)):
                    for b in range(len(tree)):
                        for house in range(len(tree)):
                            ways = [way(tree, a, b), way(tree, house, a), way(tree, house, b)]
                            meeting = [x for x in range(len(tree)) if all(x in houses for houses in ways)]
                            self.assertEqual([foot(tree, a, b, house)], meeting)
        self.assertEqual(foot(b=63, a=0, house=40, tree=path(64)), 40)

    def test_invalid_house(self):
        tree = path(3)
        for value in any_values():
            if type(value) is int and 0 <= value < 3:
                continue
            wrong = {"given": value}
            self.raises(InvalidHouse, wrong, neighbours, tree, value)
            self.raises(InvalidHouse, wrong, way, tree, value, [])
            self.raises(InvalidHouse, wrong, way, tree, 0, value)
            self.raises(InvalidHouse, wrong, on_way, tree, value, [], [])
            self.raises(InvalidHouse, wrong, on_way, tree, 0, value, [])
            self.raises(InvalidHouse, wrong, on_way, tree, 0, 0, value)
            self.raises(InvalidHouse, wrong, foot, tree, value, [], [])
            self.raises(InvalidHouse, wrong, foot, tree, 0, value, [])
            self.raises(InvalidHouse, wrong, foot, tree, 0, 2, value)
            self.raises(InvalidHouse, wrong, side, tree, value, [])
            self.raises(InvalidHouse, wrong, side, tree, 0, value)
        self.raises(InvalidHouse, {"given": 3}, neighbours, tree, 3)

    def test_no_road(self):
        self.raises(NotARoad, {"u": 0, "v": 2}, side, path(3), 0, 2)
        self.raises(NotARoad, {"u": 2, "v": 0}, side, path(3), 2, 0)
        self.raises(NotARoad, {"u": 1, "v": 1}, side, path(3), 1, 1)


class TestTreeTexts(Case):
    def test_there_and_back(self):
        dice = seeded(6)
        for tree in [Tree(1, []), path(64), Tree(64, STAR), *[random_tree(dice, houses) for houses in range(2, 64)]]:
            text = f"{tree.houses}:" + "".join(f" {u}-{v}" for u, v in tree.roads)
            self.assertEqual(tree.line(), text)
            self.assertTrue(read_tree(text=text) == tree)
        self.assertEqual(Tree(4, [(0, 1), (1, 2), (1, 3)]).line(), "4: 0-1 1-2 1-3")

    def test_no_trees(self):
        wrong = ["", "1", ":", "1: ", " 1:", "1:\n", "\n1:", "01:", "0:", "-1:", "+1:", "65:", "1 :", "2:", "2:0-1", "2: 1-0",
                 "2: 0-1 ", "2:  0-1", "2: 0-01", "2: 00-1", "02: 0-1", "2: 0-2", "2: 0-1 0-1", "3: 0-1", "3: 0-2 0-1",
                 "3: 1-2 0-1", "4: 0-1 0-2 1-2", "2: 0--1", "2: 0-1-", "2: -0-1", "2: 0-", "2: -1", "2: 0 1", "2: 0_1",
                 "2: 0-1\t", "2; 0-1", "1_0:", "x:", "2: a-b", "1:" + " " * 59998, "2: 0- 1", "3: 0-1,1-2"]
        for text in wrong:
            self.raises(InvalidText, {"given": text}, read_tree, text)
        for value in any_values():
            if value != "2: 0-1":
                self.raises(InvalidText, {"given": value}, read_tree, value)

    def test_numbers_of_many_figures(self):
        for figures in [3, 20, 5000, 59000]:
            for text in ["9" * figures + ":", "1:" + " 0-" + "9" * figures, "2: " + "0" * figures + "-1",
                         "0" * figures + "2: 0-1"]:
                self.raises(InvalidText, {"given": text}, read_tree, text)
