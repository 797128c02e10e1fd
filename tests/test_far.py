"""Points 151 to 153: how far a name is by whole logs, and which names are surely apart."""

from maplost.errors import Fitless, InvalidFounds, InvalidIndex, InvalidLot, InvalidName, NotWhole
from maplost.far import far, is_why_far, surely_apart, why_far
from maplost.fewest import fewest
from maplost.pictures import fits, is_picture
from maplost.places import map_of
from maplost.trees import side, way
from tests.helpers import Case, any_values, ended_network, frozen, house_names, seeded, whole_founds
from tests.slow_whole import apart_slow, far_slow
from tests.test_fewest import OTHERS, all_names, branching
from tests.test_pictures import ANY_WHOLE, AWAY, FOUR, HOME, RINGED, THREE, random_whole, sides
from tests.test_rows import FOUNDS, longest_to, random_fitting

A, B, C, D = ("ann", "1"), ("bo", "1"), ("cy", "1"), ("dee", "1")
X, M, Y = ("ann", "x"), ("cy", "m"), ("bo", "y")
TWO = [(None, [X, M, Y]), (None, [Y, M, X])]


def some_of(dice, values, most):
    return dice.sample(values, min(most, len(values)))


def numbers_of(founds, reader, name):
    """The near lots of the cuts at which a name has a number, with these, as the words of point 151 tell them."""
    everyone = set(range(len(founds)))
    seen = []
    for lot, roads, arrows in map_of(founds):
        if reader in lot:
            seen.append((set(lot), roads, set(arrows)))
        else:
            seen.append((everyone - set(lot), roads, {(b, a) for a, b in arrows}))
    told = {}
    for near, roads, arrows in seen:
        before = sum(count for other, count, _ in seen if other < near)
        if any(founds[k][0] == name for k in everyone - near):
            told[tuple(sorted(near))] = before + roads
        elif any(b == name for a, b in arrows):
            told[tuple(sorted(near))] = before + longest_to(arrows, name)
    return told


def far_by_words(founds, reader, name):
    return 0 if founds[reader][0] == name else max([1, *numbers_of(founds, reader, name).values()])


def at_end(founds, lot, name):
    if any(founds[k][0] == name for k in lot):
        return True
    return any(a[0] == name and side < lot for (a, y), side in sides(founds).items())


def leads(arrows, first, second):
    return any(a == first and (b == second or leads(arrows, b, second)) for a, b in arrows)


def conditions(founds, cut, first, second):
    """The three conditions of point 153."""
    lot, others = set(cut[0]), set(range(len(founds))) - set(cut[0])
    ends = at_end(founds, lot, first), at_end(founds, others, second)
    return (leads(cut[2], first, second), ends[0] and (ends[1] or any(b == second for a, b in cut[2])),
            ends[1] and any(a == first for a, b in cut[2]))


class TestFar(Case):
    def test_by_the_words(self):
        dice = seeded(121)
        seen = {}
        for k in range(120):
            founds = branching(dice, 0.5) if k % 3 == 0 else random_fitting(dice)
            before = frozen(founds)
            for reader in some_of(dice, range(len(founds)), 3):
                for name in some_of(dice, all_names(founds), 4):
                    told = far(founds, reader, name)
                    self.assertIs(type(told), int)
                    self.assertEqual(told, far_by_words(founds, reader, name), (founds, reader, name))
                    seen[told] = seen.get(told, 0) + 1
                    numbers = numbers_of(founds, reader, name)
                    shown = why_far(founds, reader, name)
                    self.assertIs(is_why_far(founds, reader, name, shown), True)
                    self.assertIs(is_why_far(founds, reader, name, None), told < 2)
                    if told < 2:
                        self.assertIs(shown, None)
                    else:
                        self.assertEqual([type(shown), numbers[shown]], [tuple, told])
                    if k % 5 == 0:
                        for near in numbers:
                            self.assertIs(is_why_far(founds, reader, name, near), told > 1 and numbers[near] == told)
            self.assertEqual(frozen(founds), before)
        self.assertTrue(all(seen.get(told, 0) > 20 for told in range(4)), seen)

    def test_by_all_networks(self):
        dice = seeded(122)
        many = 0
        while many < 40:
            founds = random_whole(dice, 3)
            if fits(founds) and fewest(founds) < 5:
                many += 1
                for (reader, name), least in far_slow(founds, 5).items():
                    self.assertEqual(far(founds, reader, name), least, (founds, reader, name))

    def test_ended_networks(self):
        dice = seeded(123)
        for _ in range(40):
            network = ended_network(dice, dice.randrange(1, 12), dice.randrange(16))
            seats = dice.sample(range(len(network.tree)), dice.randrange(1, min(len(network.tree), 6) + 1))
            founds = whole_founds(dice, network, seats)
            reader = dice.randrange(len(seats))
            for name in all_names(founds):
                true = len(way(network.tree, seats[reader], network.names.index(name))) - 1
                self.assertLessEqual(far(founds, reader, name), true)

    def test_edges(self):
        self.assertEqual([far([("ann", [])], 0, "ann"), far([(None, [A])], 0, "ann"), why_far([(None, [A])], 0, "ann")], [0, 1, None])
        self.assertEqual(far([("ann", []), ("bo", []), (None, [])], 2, "bo"), 1)
        # The own of a reader who wrote nothing: all roads of the cuts between.
        self.assertEqual([far([("dan", [X, M, Y]), ("eve", [Y, M, X])], k, name) for k in (0, 1) for name in ("dan", "eve")], [0, 2, 2, 0])
        self.assertEqual([far(TWO, 1, name) for name in ("ann", "cy", "bo")], [2, 1, 1])
        self.assertEqual([why_far(TWO, 1, "ann"), why_far(TWO, 1, "cy")], [(1,), None])
        self.assertEqual([far(name="bo", reader=0, founds=TWO), why_far(name="bo", reader=0, founds=TWO)], [2, (0,)])
        self.assertIs(is_why_far(value=(0,), name="bo", reader=0, founds=TWO), True)
        names = house_names(40)
        lines = [(name, "x") for name in names]
        long = [(None, lines), (None, lines[::-1])]
        self.assertEqual([far(long, 0, name) for name in names], [1, *range(1, 40)])

    def test_cuts_between_count_with_all_roads(self):
        # Two roads to the place behind the first cut, one more to that behind the second.
        rows = [[A, B, C, D], [C, B, A, D], [D, C, B, A]]
        founds = [(None, row) for row in rows]
        self.assertEqual([cut[:2] for cut in map_of(founds)], [((1, 2), 2), ((2,), 1)])
        self.assertEqual([far(founds, 0, name) for name in ("ann", "bo", "cy", "dee")], [1, 1, 2, 3])
        self.assertEqual([far(founds, 2, name) for name in ("ann", "bo", "cy", "dee")], [3, 2, 1, 1])
        self.assertEqual(far([*founds[:2], ("eve", rows[2])], 0, "eve"), 3)
        self.assertEqual([why_far(founds, 0, "dee"), why_far(founds, 2, "ann")], [(0, 1), (1, 2)])

    def test_equal_answers(self):
        for founds in [FOUNDS, TWO, OTHERS]:
            other = tuple((own, tuple(lines)) for own, lines in founds)
            for reader in range(len(founds)):
                for name in all_names(founds):
                    self.assertEqual(why_far(founds, reader, name), why_far(other, reader, name))


class TestIsWhyFar(Case):
    def test_wrong_values(self):
        self.assertIs(is_why_far(FOUNDS, 1, "ann", (1,)), False)
        self.assertIs(is_why_far(FOUNDS, 1, "ann", (1, 2)), True)
        for value in [(2, 1), [1, 2], (True, 2), (1, 2, 2), (0,), (0, 1), (), (1,), (3,), (-1,), None, ((1, 2),), (None,), ("1",), "12", {1: 2}]:
            self.assertIs(is_why_far(FOUNDS, 1, "ann", value), False, value)
        self.is_bool_for_all(lambda value: is_why_far(FOUNDS, 1, "ann", value), lambda value: False)
        self.is_bool_for_all(lambda value: is_why_far(FOUNDS, 1, "cy", value), lambda value: value is None)
        for value in [(0,), (1,), (1, 2), (), False, 0]:
            self.assertIs(is_why_far(FOUNDS, 0, "bo", value), False)
        self.assertIs(is_why_far(TWO, 0, "bo", (False,)), False)


class TestSurelyApart(Case):
    def test_by_the_words(self):
        dice = seeded(124)
        alone = [0, 0, 0, 0]
        for k in range(120):
            founds = branching(dice, 0.5) if k % 4 == 0 else random_fitting(dice, 7)
            for cut in map_of(founds):
                pairs = [(first, second) for first in all_names(founds) for second in all_names(founds) if first != second]
                for first, second in some_of(dice, pairs, 12):
                    held = conditions(founds, cut, first, second)
                    told = surely_apart(founds, cut[0], first, second)
                    self.assertIs(told, any(held), (founds, cut, first, second))
                    if sum(held) < 2:
                        alone[held.index(True) if any(held) else 3] += 1
        self.assertGreater(min(alone), 20, alone)

    def test_by_all_networks(self):
        dice = seeded(125)
        many = 0
        while many < 30:
            founds = random_whole(dice, 3)
            if fits(founds) and fewest(founds) < 5 and map_of(founds):
                many += 1
                told = apart_slow(founds, 5)
                for lot, roads, arrows in map_of(founds):
                    for first in all_names(founds):
                        for second in all_names(founds):
                            if first != second:
                                sure = (lot, first, second) in told
                                self.assertIs(surely_apart(founds, lot, first, second), sure, (founds, lot, first, second))

    def test_ended_networks(self):
        dice = seeded(126)
        for _ in range(40):
            network = ended_network(dice, dice.randrange(2, 10), dice.randrange(16))
            tree, names = network.tree, network.names
            seats = dice.sample(range(len(tree)), dice.randrange(1, min(len(tree), 6) + 1))
            founds = whole_founds(dice, network, seats)
            parted = [(side(tree, *road), side(tree, *road[::-1])) for u, v in tree.roads for road in [(u, v), (v, u)]]
            for lot, roads, arrows in map_of(founds):
                true = [(near, far_side) for near, far_side in parted if tuple(k for k, seat in enumerate(seats) if seat in near) == lot]
                for first in all_names(founds):
                    for second in all_names(founds):
                        if first != second and surely_apart(founds, lot, first, second):
                            a, b = names.index(first), names.index(second)
                            self.assertTrue(any(a in near and b in far_side for near, far_side in true))

    def test_edges(self):
        owns = [("dan", [X, M, Y]), ("eve", [Y, M, X])]
        told = {(a, b): surely_apart(owns, (1,), a, b) for a in all_names(owns) for b in all_names(owns) if a != b}
        self.assertEqual([pair for pair in sorted(told) if told[pair]], [
            ("bo", "ann"), ("bo", "cy"), ("bo", "dan"), ("cy", "ann"), ("cy", "dan"), ("eve", "ann"), ("eve", "cy"), ("eve", "dan")])
        self.assertIs(surely_apart(second="ann", first="bo", lot=(1,), founds=TWO), True)


class TestErrors(Case):
    def test_founds(self):
        calls = [lambda founds: far(founds, None, None), lambda founds: why_far(founds, None, None),
                 lambda founds: is_why_far(founds, None, None, None), lambda founds: surely_apart(founds, None, None, None)]
        for call in calls:
            for value in any_values():
                if value not in ANY_WHOLE:
                    self.raises(InvalidFounds, {"given": value}, call, value)
            self.raises(NotWhole, {"reader": 1}, call, [(None, [A, B]), (None, [B])])
            self.raises(NotWhole, {"reader": 0}, call, [("ann", [B]), (None, [B, A])])
            for founds in [AWAY, HOME, RINGED, THREE, FOUR]:
                with self.assertRaises(Fitless) as caught:
                    call(founds)
                self.assertIs(is_picture(founds, caught.exception.picture), True)

    def test_reader_and_name(self):
        for call in [far, why_far, lambda *given: is_why_far(*given, None)]:
            for value in any_values():
                if type(value) is not int or value not in (0, 1, 2):
                    self.raises(InvalidIndex, {"given": value}, call, FOUNDS, value, None)
                if value != "ann":
                    self.raises(InvalidName, {"given": value}, call, FOUNDS, 0, value)
            self.raises(InvalidIndex, {"given": 3}, call, FOUNDS, 3, "eve")
            self.raises(InvalidIndex, {"given": -1}, call, FOUNDS, -1, "ann")
            self.raises(InvalidName, {"given": "eve"}, call, FOUNDS, 2, "eve")

    def test_lot_and_names(self):
        for value in [*any_values(), (), (0,), (2, 1), [1], (True,), (3,), (1, 1), (1, 2, 3), (0, 2)]:
            self.raises(InvalidLot, {"given": value}, surely_apart, FOUNDS, value, None, None)
        self.raises(InvalidLot, {"given": (1,)}, surely_apart, [(None, [A]), (None, [A])], (1,), "ann", "ann")
        for value in any_values():
            if value != "ann":
                self.raises(InvalidName, {"given": value}, surely_apart, FOUNDS, (1,), value, [])
            self.raises(InvalidName, {"given": value}, surely_apart, FOUNDS, (1,), "ann", value)
        for value in ["eve", "ann", "anna"]:
            self.raises(InvalidName, {"given": value}, surely_apart, FOUNDS, (1,), "ann", value)
        self.raises(InvalidName, {"given": "eve"}, surely_apart, FOUNDS, (1,), "eve", "eve")
