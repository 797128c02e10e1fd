"""Points 91 to 93: the map of founds, the places of a map, two readers and some readers."""

from maplost.arrows import ring, roads_between
from maplost.cuts import comes_of, cross, cuts, is_cross, is_map
from maplost.errors import Crossed, InvalidFounds, InvalidIndex, InvalidLot, InvalidMap, InvalidReaders, Ringed
from maplost.founds import cut_back
from maplost.places import least_way, map_of, of_readers, places, roads_of, ways
from maplost.trees import way
from maplost.truth import true_map
from tests.helpers import Case, any_values, frozen, house_names, lists_in, random_found, random_network, random_tree, seeded
from tests.test_cuts import FOUNDS, FOUR, A, B, C, D, random_founds, random_map

AGAIN = ("ann", "2")
RINGED = [(None, [A, AGAIN]), (None, [AGAIN, A])]
BOTH = [(None, [AGAIN, *lines]) if k else (None, [*lines, AGAIN]) for k, (own, lines) in enumerate(FOUR)]
SOME = [(None, [A, B, C, D]), (None, [B, A, C, D]), (None, [B, A, D, C])]


class TestMapOf(Case):
    def test_map_of(self):
        dice = seeded(71)
        seen = {"map": 0, "Crossed": 0, "Ringed": 0}
        for _ in range(1200):
            founds = random_founds(dice)
            if cross(founds) is not None:
                seen["Crossed"] += 1
                with self.assertRaises(Crossed) as caught:
                    map_of(founds)
                self.assertIs(is_cross(founds, caught.exception.cross), True)
                continue
            try:
                expected = cuts(founds)
            except Ringed as error:
                seen["Ringed"] += 1
                self.raises(Ringed, {"names": error.names}, map_of, founds)
                continue
            seen["map"] += 1
            drawn = map_of(founds)
            self.assertEqual(drawn, expected)
            self.assertIs(is_map(drawn, len(founds)), True)
            # Maps of logs that are cut back come of it.
            counts = [dice.randrange(max(0, len(lines) - 2), len(lines) + 1) for own, lines in founds]
            self.assertIs(comes_of(map_of(cut_back(founds, counts)), drawn, len(founds)), True)
        self.assertGreater(min(seen.values()), 40, seen)

    def test_crossed_ahead_of_ringed(self):
        self.raises(Ringed, {"names": ("ann",)}, map_of, RINGED)
        self.raises(Ringed, {"names": ("ann",)}, cuts, BOTH)
        with self.assertRaises(Crossed) as caught:
            map_of(BOTH)
        self.assertIs(is_cross(BOTH, caught.exception.cross), True)

    def test_invalid_founds(self):
        for value in any_values():
            if value not in ([("ann", [])], [(None, [])], ((None, ()),), [(None, [("ann", "x")])]):
                self.raises(InvalidFounds, {"given": value}, map_of, value)
                self.raises(InvalidFounds, {"given": value}, least_way, value, value, value)
                self.raises(InvalidFounds, {"given": value}, of_readers, value, value)

    def test_new_and_equal(self):
        self.assertEqual(map_of(founds=FOUNDS), cuts(FOUNDS))
        self.assertEqual(map_of(tuple((own, tuple(lines)) for own, lines in FOUNDS)), cuts(FOUNDS))
        map_of(FOUNDS).clear()
        self.assertEqual(len(map_of(FOUNDS)), 3)
        self.assertEqual(map_of([(None, []), ("ann", [A])]), [])


def slow_places(drawn, readers):
    """The places and ways of a map, as the words of point 92 tell them."""
    lots = [set(lot) for lot, roads, arrows in drawn]

    def behind(lot, barred):
        fitting = [k for k, other in enumerate(lots) if lot <= other and k != barred]
        return min(fitting, key=lambda k: len(lots[k])) + 1 if fitting else 0

    homes = [behind({reader}, None) for reader in range(readers)]
    told = [tuple(k for k, home in enumerate(homes) if home == place) for place in range(len(drawn) + 1)]
    return told, [(behind(lot, k), k + 1, drawn[k][1]) for k, lot in enumerate(lots)]


class TestPlaces(Case):
    def test_true_maps(self):
        dice = seeded(72)
        empty = 0
        for _ in range(400):
            houses = dice.randrange(1, 15)
            tree = random_tree(dice, houses)
            readers = dice.randrange(1, min(houses, 12) + 1)
            seats = dice.sample(range(houses), readers)
            drawn = true_map(tree, house_names(houses), seats)
            before = frozen(drawn)
            told, joined = slow_places(drawn, readers)
            self.assertEqual(places(drawn, readers), told)
            self.assertEqual(ways(drawn, readers), joined)
            empty += () in told
            self.assertEqual(sorted(reader for place in told for reader in place), list(range(readers)))
            self.assertIn(0, told[0])
            for i in range(readers):
                for j in range(readers):
                    self.assertEqual(roads_of(drawn, readers, i, j), len(way(tree, seats[i], seats[j])) - 1)
            self.assertEqual(frozen(drawn), before)
        self.assertGreater(empty, 20)

    def test_edges(self):
        self.assertEqual([places([], 1), places((), 3), ways([], 12), roads_of([], 3, 2, 1)], [[(0,)], [(0, 1, 2)], [], 0])
        nested = [((1,), 2, ()), ((1, 2, 3), 5, ()), ((1, 3), 3, ()), ((4,), 1, ())]
        self.assertEqual(places(nested, 6), [(0, 5), (1,), (2,), (3,), (4,)])
        self.assertEqual(ways(nested, 6), [(3, 1, 2), (0, 2, 5), (2, 3, 3), (0, 4, 1)])
        self.assertEqual([roads_of(nested, 6, i, j) for i, j in [(0, 1), (1, 2), (3, 1), (1, 4), (0, 5), (2, 2)]], [10, 5, 2, 11, 0, 0])
        apart = [((1,), 1, ()), ((1, 2), 1, ()), ((2,), 7, ())]
        self.assertEqual([places(apart, 3), ways(apart, 3)], [[(0,), (1,), (), (2,)], [(2, 1, 1), (0, 2, 1), (2, 3, 7)]])
        self.assertEqual(roads_of(j=0, i=2, readers=3, drawn=apart), 8)
        self.assertEqual([places(readers=3, drawn=apart), ways(readers=3, drawn=apart)], [places(apart, 3), ways(apart, 3)])

    def test_new_lists(self):
        drawn, readers = random_map(seeded(3))
        for call in [places, ways]:
            told = call(drawn, readers)
            self.assertEqual(len(lists_in(told)), 1)
            told.append(1)
            self.assertNotEqual(call(drawn, readers), told)

    def test_errors(self):
        calls = [places, ways, lambda drawn, readers: roads_of(drawn, readers, None, None)]
        for call in calls:
            for value in any_values():
                if type(value) is not int or not 1 <= value <= 12:
                    self.raises(InvalidReaders, {"given": value}, call, None, value)
                if type(value) not in (list, tuple) or len(value):
                    self.raises(InvalidMap, {"given": value}, call, value, 3)
            for value in [0, 13, True]:
                self.raises(InvalidReaders, {"given": value}, call, [], value)
        for value in any_values():
            if type(value) is not int or not 0 <= value < 3:
                self.raises(InvalidIndex, {"given": value}, roads_of, [((1,), 1, ())], 3, value, [])
                self.raises(InvalidIndex, {"given": value}, roads_of, [((1,), 1, ())], 3, 0, value)
        self.raises(InvalidIndex, {"given": 3}, roads_of, [], 3, 3, -1)
        self.raises(InvalidIndex, {"given": -1}, roads_of, [], 3, 2, -1)


class TestLeastWay(Case):
    def test_the_greater_one(self):
        dice = seeded(73)
        seen = {"logs": 0, "map": 0, "alike": 0}
        for _ in range(600):
            network = random_network(dice, dice.randrange(2, 9), 14, dice.choice([0, 0.1]))
            seats = dice.sample(range(len(network.tree)), dice.randrange(2, min(len(network.tree), 5) + 1))
            founds = [random_found(dice, network, house) for house in seats]
            i, j = dice.sample(range(len(seats)), 2)
            by_logs, by_map = roads_between(founds, i, j), roads_of(map_of(founds), len(seats), i, j)
            seen["logs" if by_logs > max(by_map, 1) else "map" if by_map > by_logs else "alike"] += 1
            self.assertEqual(least_way(founds, i, j), max(by_logs, by_map))
            self.assertLess(least_way(founds, i, j), len(way(network.tree, seats[i], seats[j])))
        self.assertEqual(least_way(j=2, i=0, founds=SOME), 2)
        self.assertGreater(min(seen["logs"], seen["alike"]), 10, seen)

    def test_the_map_tells_more(self):
        founds = [(None, [A, B, C, D]), (None, [B, A, D, C]), (None, [B, A, C, D])]
        self.assertEqual([roads_between(founds, 0, 1), roads_of(map_of(founds), 3, 0, 1), least_way(founds, 0, 1)], [1, 2, 2])
        self.assertEqual(least_way([(None, []), ("ann", [])], 0, 1), 1)

    def test_errors(self):
        for value in any_values():
            if type(value) is not int or value not in (0, 1, 2):
                self.raises(InvalidIndex, {"given": value}, least_way, FOUNDS, value, None)
            if type(value) is not int or value not in (0, 2):
                self.raises(InvalidIndex, {"given": value}, least_way, FOUNDS, 1, value)
        for founds in [FOUR, BOTH]:
            self.raises(InvalidIndex, {"given": 4}, least_way, founds, 4, 0)
            self.raises(InvalidIndex, {"given": 1}, least_way, founds, 1, 1)
            with self.assertRaises(Crossed) as caught:
                least_way(founds, 0, 1)
            self.assertIs(is_cross(founds, caught.exception.cross), True)
        self.raises(InvalidIndex, {"given": 0}, least_way, RINGED, 0, 0)
        self.raises(Ringed, {"names": ("ann",)}, least_way, [*RINGED, (None, [A, AGAIN])], 0, 2)
        # The ring is one of the two logs alone, not of a cut: the third reader lacks the line.
        founds = [*RINGED, (None, [A])]
        self.assertEqual([map_of(founds), ring(founds, 0, 1)], [[], ("ann",)])
        self.raises(Ringed, {"names": ("ann",)}, least_way, founds, 0, 1)
        self.assertEqual(least_way(founds, 0, 2), 1)


class TestOfReaders(Case):
    def test_of_readers(self):
        founds = [("ann", [A]), (None, (B, C)), ("dee", [])]
        before = frozen(founds)
        for lot, expected in [([0], [("ann", [A])]), ((2, 0), [("dee", []), ("ann", [A])]), ([1, 2, 0], [(None, [B, C]), ("dee", []), ("ann", [A])])]:
            told = of_readers(lot=lot, founds=founds)
            self.assertEqual(told, expected)
            self.assertEqual(len({id(row) for row in lists_in(told) + lists_in(founds)}), 1 + len(lot) + 3)
            told[0][1].append(D)
            self.assertEqual(of_readers(founds, lot), expected)
        self.assertEqual(frozen(founds), before)
        twelve = [(None, [])] * 12
        self.assertEqual(of_readers(twelve, list(range(12))), twelve)

    def test_maps_of_some(self):
        dice = seeded(74)
        for _ in range(60):
            network = random_network(dice, dice.randrange(2, 9), 12, 0)
            seats = dice.sample(range(len(network.tree)), dice.randrange(2, min(len(network.tree), 6) + 1))
            founds = [random_found(dice, network, house) for house in seats]
            lot = dice.sample(range(len(seats)), dice.randrange(1, len(seats) + 1))
            true = true_map(network.tree, network.names, [seats[reader] for reader in lot])
            self.assertIs(comes_of(map_of(of_readers(founds, lot)), true, len(lot)), True)

    def test_invalid_lot(self):
        founds = [("ann", [A]), (None, [B]), ("dee", [])]
        wrong = [[], (), [0, 0], [3], [-1], [0, True], [False], [None], ["0"], [[0]], [(0,)], {0: 0}, "0", 0, None, [0, 1, 2, 0]]
        fine = [value for value in any_values() if value in ((0, 1),)]
        self.assertEqual(fine, [(0, 1)])
        for value in wrong + [value for value in any_values() if value != (0, 1) or type(value[0]) is bool]:
            self.raises(InvalidLot, {"given": value}, of_readers, founds, value)
