"""Points 121 and 122: rows at places, steps, and rows between."""

from maplost.errors import Fitless, InvalidFounds, InvalidLot, NotWhole
from maplost.pictures import is_picture
from maplost.places import map_of, places, ways
from maplost.rows import between, place_rows, steps
from tests.helpers import (
    Case, any_values, ended_network, ends_of, frozen, house_names, lists_in, long_tree, round_network, seeded, whole_founds,
)
from tests.test_cuts import slow_cuts
from tests.test_pictures import ANY_WHOLE, AWAY, HOME, RINGED, THREE, FOUR, sides

A, B, C, D, E = ("ann", "1"), ("bo", "1"), ("cy", "1"), ("dee", "1"), ("bo", "2")
FOUNDS = [("ann", [A, B, C, D]), ("cy", [C, B, A, D]), ("dee", [D, B, A, C])]
TWO = [(None, [B, A, C, E]), (None, [A, B, E, C])]


def random_fitting(dice, houses=9, lines=12):
    """Whole founds of an ended network, with as many lots and empty places as can be had at random."""
    if dice.random() < 0.4:
        network = ended_network(dice, dice.randrange(1, houses + 1), dice.randrange(lines + 1))
        seats = range(len(network.tree))
    else:
        tree = long_tree(dice, dice.randrange(2, houses + 1))
        writers = dice.sample(range(len(tree)), dice.randrange(len(tree) // 2, len(tree) + 1))
        network = round_network(dice, tree, writers)
        seats = ends_of(tree)
    seats = dice.sample(seats, min(len(seats), dice.randrange(1, 7)))
    return whole_founds(dice, network, seats)


def places_on_side(drawn, readers, side):
    """The indices of the places on the side of a lot that is the lot of a cut, or all others, as point 121 tells it."""
    if 0 in side:
        return set(range(len(drawn) + 1)) - places_on_side(drawn, readers, set(range(readers)) - side)
    return {k + 1 for k, (lot, roads, arrows) in enumerate(drawn) if set(lot) <= side}


def longest_to(arrows, name):
    return max([longest_to(arrows, a) + 1 for a, b in arrows if b == name], default=0)


class TestPlaceRows(Case):
    def test_by_the_words(self):
        dice = seeded(101)
        empty = 0
        for _ in range(200):
            founds = random_fitting(dice)
            before = frozen(founds)
            rows = place_rows(founds)
            drawn = map_of(founds)
            homes = places(drawn, len(founds))
            self.assertEqual(len(rows), len(homes))
            empty += () in homes
            for row, readers in zip(rows, homes):
                self.assertIs(type(row), tuple)
                self.assertEqual(sorted(row), sorted(founds[0][1]))
                for reader in readers:
                    self.assertEqual(row, tuple(founds[reader][1]))
            parted = sides(founds)
            for a, b in parted:
                here = places_on_side(drawn, len(founds), parted[(a, b)])
                for k, row in enumerate(rows):
                    self.assertEqual(row.index(a) < row.index(b), k in here)
            lines = founds[0][1]
            for k, a in enumerate(lines):
                for b in lines[k + 1:]:
                    if (a, b) not in parted:
                        self.assertTrue(all(row.index(a) < row.index(b) for row in rows))
            self.assertEqual(frozen(founds), before)
        self.assertGreater(empty, 15)

    def test_edges(self):
        self.assertEqual([place_rows([("ann", [])]), place_rows([(None, [A, B])]), place_rows([(None, (A, B))] * 12)], [[()], [(A, B)], [(A, B)]])
        self.assertEqual(place_rows(founds=FOUNDS), [(A, B, C, D), (C, B, A, D), (B, A, C, D), (D, B, A, C)])
        self.assertEqual(place_rows(tuple((own, tuple(lines)) for own, lines in FOUNDS)), place_rows(FOUNDS))
        told = place_rows(FOUNDS)
        self.assertEqual(len(lists_in(told)), 1)


class TestSteps(Case):
    def test_by_the_words(self):
        dice = seeded(102)
        seen = {}
        for _ in range(200):
            founds = random_fitting(dice)
            names = sorted({line[0] for line in founds[0][1]})
            for lot, roads, arrows in map_of(founds):
                told = steps(founds, lot)
                self.assertEqual(told, [(name, longest_to(slow_cuts(founds)[lot], name)) for name in names])
                self.assertEqual(max(count for name, count in told), roads)
                seen[roads] = seen.get(roads, 0) + 1
        self.assertTrue(all(seen[roads] > 10 for roads in (1, 2, 3)), seen)

    def test_edges(self):
        # The own of a reader who wrote nothing is no name that a line bears.
        founds = [("dan", [A, C, B]), ("eve", [B, C, A])]
        self.assertEqual(steps(lot=(1,), founds=founds), [("ann", 2), ("bo", 0), ("cy", 1)])
        told = steps(founds, (1,))
        told.clear()
        self.assertEqual(len(steps(founds, (1,))), 3)


class TestBetween(Case):
    def check(self, founds):
        """All that point 122 asks of the rows between; how many there are."""
        rows, drawn = place_rows(founds), map_of(founds)
        many = 0
        for (lot, roads, arrows), (near, far, again) in zip(drawn, ways(drawn, len(founds))):
            told = between(founds, lot)
            self.assertIs(type(told), list)
            self.assertEqual([len(told), again], [roads - 1, roads])
            self.assertTrue(all(type(row) is tuple and sorted(row) == sorted(rows[0]) for row in told))
            many += len(told)
            whole = [rows[far], *told, rows[near]]
            count = dict(steps(founds, lot))
            for a in rows[0]:
                for b in rows[0]:
                    if a == b:
                        continue
                    order = [row.index(a) < row.index(b) for row in whole]
                    if order[0] and order[-1]:
                        self.assertTrue(all(order))
                    elif order[0]:
                        t = order.index(False)
                        self.assertFalse(any(order[t:]))
                        self.assertTrue(count[a[0]] < t <= count[b[0]])
        return many

    def test_by_the_words(self):
        dice = seeded(103)
        self.assertGreater(sum(self.check(random_fitting(dice)) for _ in range(250)), 100)

    def test_long(self):
        names = house_names(40)
        lines = [(name, "x") for name in names]
        self.assertEqual(self.check([(None, lines), (None, lines[::-1])]), 38)
        dice = seeded(104)
        for _ in range(3):
            network = ended_network(dice, 40, 40)
            self.check(whole_founds(dice, network, dice.sample(range(40), 12)))

    def test_wild_two(self):
        """Two logs of one line a name each never have a ring, so any two rows will do."""
        dice = seeded(105)
        many = 0
        for _ in range(150):
            lines = [(name, "x") for name in house_names(dice.randrange(2, 12))]
            many += self.check([(None, dice.sample(lines, len(lines))), (None, lines)])
        self.assertGreater(many, 100)

    def test_edges(self):
        self.assertEqual(between(TWO, (1,)), [(B, A, E, C)])
        self.assertEqual([between(FOUNDS, (1, 2)), between(FOUNDS, (2,))], [[], []])
        self.assertEqual(between(lot=(1,), founds=tuple((own, tuple(lines)) for own, lines in TWO)), between(TWO, (1,)))
        told = between(TWO, (1,))
        told.clear()
        self.assertEqual(len(between(TWO, (1,))), 1)


class TestErrors(Case):
    def test_errors(self):
        calls = [place_rows, lambda founds: steps(founds, None), lambda founds: between(founds, None)]
        for call in calls:
            for value in any_values():
                if value not in ANY_WHOLE:
                    self.raises(InvalidFounds, {"given": value}, call, value)
            self.raises(NotWhole, {"reader": 1}, call, [(None, [A, B]), (None, [B])])
            self.raises(NotWhole, {"reader": 0}, call, [("ann", [B]), (None, [B, A])])
            for founds in [AWAY, HOME, RINGED, THREE, FOUR]:
                with self.assertRaises(Fitless) as caught:
                    call(founds)
                self.assertIs(is_picture(founds, caught.exception.picture), True)

    def test_invalid_lot(self):
        wrong = [(), (0,), (3,), (2, 1), [1], [1, 2], (True,), (1, True), (1, 1), (0, 1), (1, 2, 3), (None,), ("1",), 1, "1", {1: 1}, ((1,),), (1.0,) and (10 ** 19,)]
        for value in wrong + any_values():
            self.raises(InvalidLot, {"given": value}, steps, FOUNDS, value)
            self.raises(InvalidLot, {"given": value}, between, FOUNDS, value)
        # A lot, but of no cut.
        self.raises(InvalidLot, {"given": (1,)}, steps, [(None, [A]), (None, [A])], (1,))
        self.raises(InvalidLot, {"given": (2,)}, between, [(None, [A, B]), (None, [B, A]), (None, [B, A])], (2,))
