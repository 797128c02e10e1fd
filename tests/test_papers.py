"""Points 201 and 202: papers for maps."""

from itertools import product

from maplost.cuts import comes_of, is_cross, is_map
from maplost.errors import Crossed, InvalidFounds, InvalidMap, Ringed
from maplost.papers import backing, is_backing
from maplost.places import map_of
from maplost.truth import true_map
from tests.helpers import (
    Case, any_values, deep, frozen, house_names, lists_in, long_tree, random_found, random_network, random_tree, round_network, seeded,
)
from tests.test_cuts import FOUNDS, FOUR, A, B, C, D, random_founds
from tests.test_places import BOTH, RINGED

X, M, Y = ("ann", "x"), ("cy", "m"), ("bo", "y")
TWO = [("ann", [X, M, Y]), ("bo", [Y, M, X])]
ONE_ROAD = [((1,), 1, (("bo", "ann"),))]
RIGHT = [(("bo", "cy"), ((Y, M),), ((Y, X),))]
ANY_FOUNDS = ([("ann", [])], [(None, [])], ((None, ()),), [(None, [("ann", "x")])])


def parts_so(founds, lot, a, b):
    """Whether two lines are common ones, a ahead of b in the logs of the lot and behind it in all others."""
    rows = [list(lines) for own, lines in founds]
    if any(line not in row for line in (a, b) for row in rows):
        return False
    return all((row.index(a) < row.index(b)) if k in lot else (row.index(b) < row.index(a)) for k, row in enumerate(rows))


def is_line(value):
    return type(value) is tuple and len(value) == 2 and all(type(part) is str for part in value)


def slow_is_backing(founds, drawn, value):
    """Whether the words of point 201 hold for any value."""
    if type(value) not in (list, tuple) or len(value) != len(drawn):
        return False
    for (lot, roads, arrows), item in zip(drawn, value):
        if type(item) is not tuple or len(item) != 3 or any(type(part) is not tuple for part in item):
            return False
        names, pairs, shown = item
        if len(names) != roads + 1 or len(pairs) != roads or len(shown) != len(arrows):
            return False
        for pair in pairs + shown:
            if type(pair) is not tuple or len(pair) != 2 or not is_line(pair[0]) or not is_line(pair[1]):
                return False
            if not parts_so(founds, lot, *pair):
                return False
        if [(a[0], b[0]) for a, b in pairs] != list(zip(names, names[1:])) or tuple((a[0], b[0]) for a, b in shown) != arrows:
            return False
    return True


def spoilt(dice, value):
    """A backing in which one thing at any depth is changed."""
    if type(value) is str:
        return dice.choice([value + "a", value[:-1], "", "zed", None, True, [value], (value,)])
    if type(value) in (list, tuple) and value and dice.random() < 0.8:
        k = dice.randrange(len(value))
        return type(value)((*value[:k], spoilt(dice, value[k]), *value[k + 1:]))
    items = list(value)
    choices = [[*items, dice.choice([(), None, "ann", ("ann", "1"), (("ann", "1"), ("bo", "1"))])], items[:-1], items[1:], items[::-1], items * 2]
    return dice.choice([None, True, {}, list(value) if type(value) is tuple else (value,), *[type(value)(some) for some in choices]])


class TestBacking(Case):
    def test_by_the_words(self):
        dice = seeded(261)
        seen = {"roads": 0, "error": 0, "none": 0, "false": 0}
        for _ in range(600):
            founds = random_founds(dice)
            before = frozen(founds)
            try:
                drawn = map_of(founds)
            except (Crossed, Ringed) as error:
                self.raises(type(error), vars(error), backing, founds)
                seen["error"] += 1
                continue
            told = backing(founds)
            self.assertIs(type(told), list)
            self.assertTrue(slow_is_backing(founds, drawn, told))
            self.assertIs(is_backing(founds, drawn, told), True)
            self.assertIs(is_backing(tuple(founds), tuple(drawn), tuple(told)), True)
            seen["roads"] += any(roads > 1 for lot, roads, arrows in drawn)
            seen["none"] += not drawn
            for _ in range(10):
                value = spoilt(dice, told)
                expected = slow_is_backing(founds, drawn, value)
                seen["false"] += not expected
                self.assertIs(is_backing(founds, drawn, value), expected, value)
            self.assertEqual(frozen(founds), before)
        self.assertGreater(min(seen.values()), 30, seen)

    def test_edges(self):
        self.assertEqual([backing([("ann", [])]), backing([(None, [X, Y])] * 12)], [[], []])
        self.assertEqual(backing(founds=TWO), [(("bo", "cy", "ann"), ((Y, M), (M, X)), ((Y, X), (Y, M), (M, X)))])
        self.assertEqual([item[0] for item in backing(FOUNDS)], [item[0] for item in backing(tuple((own, tuple(lines)) for own, lines in FOUNDS))])

    def test_errors(self):
        for value in [[("ann", [A, A])], [], *any_values()]:
            if value not in ANY_FOUNDS:
                self.raises(InvalidFounds, {"given": value}, backing, value)
                self.raises(InvalidFounds, {"given": value}, is_backing, value, None, None)
        self.raises(Ringed, {"names": ("ann",)}, backing, RINGED)
        for founds in [FOUR, BOTH]:
            with self.assertRaises(Crossed) as caught:
                backing(founds)
            self.assertIs(is_cross(founds, caught.exception.cross), True)

    def test_new_and_equal(self):
        dice = seeded(262)
        for _ in range(50):
            tree = random_tree(dice, dice.randrange(2, 8))
            network = round_network(dice, tree, range(len(tree)))
            founds = [(network.names[seat], list(network.log(seat))) for seat in dice.sample(range(len(tree)), 2)]
            other = tuple((own, tuple(lines)) for own, lines in founds)
            told = backing(founds)
            self.assertEqual([backing(other), len(lists_in(told))], [told, 1])
            told.clear()
            self.assertEqual(backing(founds), backing(other))


class TestIsBacking(Case):
    def test_maps_that_are_not_those_of_the_founds(self):
        # Fewer cuts, fewer roads, fewer arrows; the pairs need not be arrows of the map.
        self.assertIs(is_backing(value=RIGHT, drawn=ONE_ROAD, founds=TWO), True)
        self.assertIs(is_backing(TWO, [], []), True)
        self.assertIs(is_backing(TWO, [((1,), 1, ())], [(("bo", "ann"), ((Y, X),), ())]), True)
        self.assertIs(is_backing(TWO, [((1,), 2, ())], [(("bo", "cy", "ann"), ((Y, M), (M, X)), ())]), True)
        # More of them than the founds show.
        for drawn in [[((1,), 3, ())], [((1,), 2, (("ann", "bo"),))]]:
            for names in product(["ann", "bo", "cy"], repeat=drawn[0][1] + 1):
                for pairs in product(product([X, M, Y], repeat=2), repeat=drawn[0][1] if drawn[0][1] < 3 else 0):
                    for shown in [(), ((X, Y),), ((Y, X),)]:
                        self.assertIs(is_backing(TWO, drawn, [(names, pairs, shown)]), False)
        three = [*TWO, (None, [X, M, Y])]
        self.assertIs(is_backing(three, [((2,), 1, ())], [(("bo", "ann"), ((Y, X),), ())]), False)
        self.assertIs(is_backing(three, [((1, 2), 1, ())], [(("bo", "ann"), ((Y, X),), ())]), False)
        self.assertIs(is_backing(three, [((1,), 1, ())], [(("bo", "ann"), ((Y, X),), ())]), True)

    def test_founds_that_have_no_map(self):
        # Cuts of the founds cross, or names are in a ring; a map with one cut can have a backing all the same.
        self.assertIs(is_backing(FOUR, [((2, 3), 1, ())], [(("bo", "ann"), ((B, A),), ())]), True)
        self.assertIs(is_backing(FOUR, [((1, 3), 1, (("dee", "cy"),))], [(("dee", "cy"), ((D, C),), ((D, C),))]), True)
        again = ("ann", "2")
        ringed = [(None, [A, again]), (None, [again, A])]
        # Names that follow one another may be alike, and stand several times.
        self.assertIs(is_backing(ringed, [((1,), 1, ())], [(("ann", "ann"), ((again, A),), ())]), True)
        self.assertIs(is_backing(ringed, [((1,), 2, ())], [(("ann",) * 3, ((again, A),) * 2, ())]), True)
        self.assertIs(is_backing(ringed, [((1,), 2, ())], [(("ann",) * 3, ((again, A), (A, again)), ())]), False)

    def test_common_lines_alone(self):
        founds = [(None, [X, M, Y]), (None, [Y, M, X]), (None, [Y, X])]
        self.assertIs(is_backing(founds, [((1, 2), 1, ())], [(("bo", "ann"), ((Y, X),), ())]), True)
        self.assertIs(is_backing(founds, [((1, 2), 1, ())], [(("bo", "cy"), ((Y, M),), ())]), False)

    def test_each_word(self):
        wrong = [
            [], RIGHT * 2, [None], [list(RIGHT[0])], [RIGHT[0][:2]], [(*RIGHT[0], ())], RIGHT[0], {"a": RIGHT[0]}, None,
            # The number of names and pairs, and what they are.
            [(("bo",), ((Y, M),), ((Y, X),))], [(("bo", "cy", "ann"), ((Y, M),), ((Y, X),))], [(["bo", "cy"], ((Y, M),), ((Y, X),))],
            [(("bo", "cy"), (), ((Y, X),))], [(("bo", "cy"), ((Y, M), (M, X)), ((Y, X),))], [(("bo", "cy"), [(Y, M)], ((Y, X),))],
            [(("bo", "cy"), ([Y, M],), ((Y, X),))], [(("bo", "cy"), ((Y, M, X),), ((Y, X),))], [(("bo", "cy"), ((Y,),), ((Y, X),))],
            [(("bo", "cy"), ((list(Y), M),), ((Y, X),))], [(("bo", "cy"), ((Y, list(M)),), ((Y, X),))], [(("bo", "cy"), (Y,), ((Y, X),))],
            # A line a of the one name and a line b of the next one.
            [(("bo", "ann"), ((Y, M),), ((Y, X),))], [(("ann", "cy"), ((Y, M),), ((Y, X),))], [(("cy", "bo"), ((Y, M),), ((Y, X),))],
            [((None, "cy"), ((Y, M),), ((Y, X),))], [((["bo"], "cy"), ((Y, M),), ((Y, X),))],
            # a ahead of b in the logs of the lot, and behind it in those of all others.
            [(("cy", "bo"), ((M, Y),), ((Y, X),))], [(("bo", "bo"), ((Y, Y),), ((Y, X),))],
            [(("bo", "cy"), ((Y, ("cy", "q")),), ((Y, X),))], [(("bo", "cy"), ((("bo", "q"), M),), ((Y, X),))],
            # What is shown: one for each arrow, in their order, and of its names.
            [(("bo", "cy"), ((Y, M),), ())], [(("bo", "cy"), ((Y, M),), ((Y, X), (Y, X)))], [(("bo", "cy"), ((Y, M),), [(Y, X)])],
            [(("bo", "cy"), ((Y, M),), ([Y, X],))], [(("bo", "cy"), ((Y, M),), ((X, Y),))], [(("bo", "cy"), ((Y, M),), ((Y, M),))],
            [(("bo", "cy"), ((Y, M),), ((M, X),))], [(("bo", "cy"), ((Y, M),), (None,))], [(("bo", "cy"), ((Y, M),), None)],
            [(("bo", "cy"), None, ((Y, X),))], [(None, ((Y, M),), ((Y, X),))], [("bo", ((Y, M),), ((Y, X),))], [((True, False), ((Y, M),), ((Y, X),))],
        ]
        for value in wrong:
            self.assertIs(is_backing(TWO, ONE_ROAD, value), False, value)
        for value in [*any_values(), deep(RIGHT)]:
            self.assertIs(is_backing(TWO, ONE_ROAD, value), False)
        self.is_bool_for_all(lambda value: is_backing(TWO, [], value), lambda value: value in ([], ()))

    def test_shown_in_the_order_of_the_arrows(self):
        drawn = [((1,), 2, (("bo", "ann"), ("bo", "cy"), ("cy", "ann")))]
        names, pairs = ("bo", "cy", "ann"), ((Y, M), (M, X))
        for shown in product([(Y, X), (Y, M), (M, X)], repeat=3):
            self.assertIs(is_backing(TWO, drawn, [(names, pairs, shown)]), shown == ((Y, X), (Y, M), (M, X)))

    def test_the_order_of_the_cuts(self):
        drawn, told = map_of(FOUNDS), backing(FOUNDS)
        for order in [(0, 1, 2), (0, 2, 1), (1, 0, 2), (2, 1, 0)]:
            self.assertIs(is_backing(FOUNDS, drawn, [told[k] for k in order]), order == (0, 1, 2))

    def test_invalid_map(self):
        wrong = [[((0,), 1, ())], [((2,), 1, ())], [((1,), 0, ())], [((1,), True, ())], [((True,), 1, ())], [[(1,), 1, ()]], [([1], 1, ())],
                 [((1,), 1, []), ], [((1,), 1, (["bo", "ann"],))], [((1,), 1, ()), ((1,), 1, ())], [((1,), 1, (("a", "b"), ("b", "c")))]]
        for value in wrong + [value for value in any_values() if value not in ([], ())]:
            self.raises(InvalidMap, {"given": value}, is_backing, TWO, value, RIGHT)
        twice = [("ann", []), ("ann", [])]
        self.raises(InvalidFounds, {"given": twice}, is_backing, twice, [((0,), 1, ())], RIGHT)
        # A map of as many readers as the founds have.
        drawn = [((2,), 1, ())]
        self.raises(InvalidMap, {"given": drawn}, is_backing, TWO, drawn, RIGHT)
        self.assertIs(is_backing([*TWO, (None, [])], drawn, []), False)

    def test_great_numbers_of_roads(self):
        self.assertIs(is_backing(TWO, [((1,), 10 ** 19, ())], [((), (), ())]), False)


def random_backed(dice, founds):
    """A map at random that need not be that of the founds, and a backing of it."""
    rows = [list(lines) for own, lines in founds]
    shared = [line for line in rows[0] if all(line in row for row in rows)]
    by_lot = {}
    for a, b in product(shared, repeat=2):
        lot = tuple(k for k, row in enumerate(rows) if row.index(a) < row.index(b))
        if a != b and lot and 0 not in lot:
            by_lot.setdefault(lot, []).append((a, b))
    drawn, told = [], []
    for lot in sorted(by_lot):
        if dice.random() < 0.7:
            shown = {}
            for a, b in dice.sample(by_lot[lot], len(by_lot[lot])):
                if dice.random() < 0.6:
                    shown[(a[0], b[0])] = (a, b)
            pairs = [dice.choice(by_lot[lot])]
            while dice.random() < 0.9:
                fitting = [pair for pair in by_lot[lot] if pair[0][0] == pairs[-1][1][0]]
                if not fitting:
                    break
                pairs.append(dice.choice(fitting))
            arrows = tuple(sorted(shown))
            drawn.append((lot, len(pairs), arrows))
            names = (pairs[0][0][0], *[b[0] for a, b in pairs])
            told.append((names, tuple(pairs), tuple(shown[arrow] for arrow in arrows)))
    return drawn, told


class TestBackedMapsComeOfTrueMaps(Case):
    """Point 202, for networks that run with losses and stops."""

    def test_maps_of_founds_and_others(self):
        dice = seeded(263)
        seen = {"cuts": 0, "other": 0, "roads": 0, "lost": 0, "stopped": 0}
        for k in range(1200):
            if k % 3:
                network = random_network(dice, dice.randrange(2, 9), 16, dice.choice([0, 0.05, 0.2]))
            else:
                tree = long_tree(dice, dice.randrange(3, 8))
                network = round_network(dice, tree, range(len(tree)))
            seats = dice.sample(range(len(network.tree)), dice.randrange(2, min(len(network.tree), 4) + 1))
            founds = [random_found(dice, network, house) for house in seats]
            if dice.random() < 0.7:
                founds = [(network.names[house], list(network.log(house))) for house in seats]
            true = true_map(network.tree, network.names, seats)
            own_map = map_of(founds)
            self.assertIs(is_backing(founds, own_map, backing(founds)), True)
            drawn, value = random_backed(dice, founds)
            if is_map(drawn, len(seats)):
                self.assertIs(is_backing(founds, drawn, value), True)
                self.assertIs(comes_of(drawn, true, len(seats)), True)
                seen["cuts"] += len(drawn) > 0
                seen["other"] += drawn != own_map
                seen["roads"] += any(roads > 1 for lot, roads, arrows in drawn)
                seen["lost"] += len(drawn) > 0 and any(deed[0] == "lose" for deed in network.script)
                seen["stopped"] += len(network.stopped) > 0
        self.assertGreater(min(seen.values()), 30, seen)

    def test_no_backing_of_more_than_the_truth(self):
        """Maps that do not come of the true map have no backing: none that is tried is one."""
        dice = seeded(264)
        tried = 0
        for _ in range(200):
            tree = random_tree(dice, dice.randrange(3, 7))
            network = round_network(dice, tree, range(len(tree)))
            seats = dice.sample(range(len(tree)), 3)
            founds = [(None, list(network.log(house))) for house in seats]
            founds = [(network.names[house], lines) for house, (own, lines) in zip(seats, founds)]
            true = true_map(tree, network.names, seats)
            other = true_map(random_tree(dice, len(tree)), house_names(len(tree)), seats)
            if not comes_of(other, true, 3):
                told = {lot: item for (lot, roads, arrows), item in zip(map_of(founds), backing(founds))}
                value = [told.get(lot, (("a", "b"), (), ())) for lot, roads, arrows in other]
                self.assertIs(is_backing(founds, other, value), False)
                tried += 1
        self.assertGreater(tried, 50)

    def test_largest(self):
        dice = seeded(265)
        network = random_network(dice, 64, 40, 0.0)
        seats = dice.sample(range(64), 12)
        founds = [(network.names[house], list(network.log(house))) for house in seats]
        self.assertIs(is_backing(founds, map_of(founds), backing(founds)), True)
        lines = [(name, "x") for name in house_names(40)]
        founds = [(None, lines[::-1] if k % 2 else lines) for k in range(12)]
        told = backing(founds)
        self.assertEqual([len(told), len(told[0][0]), len(told[0][1]), len(told[0][2])], [1, 40, 39, 780])
        self.assertIs(is_backing(founds, map_of(founds), told), True)
