"""Points 81 to 83: cuts, cuts that cross, and maps."""

from itertools import permutations, product

from maplost.cuts import comes_of, cross, cuts, is_cross, is_map
from maplost.errors import InvalidFounds, InvalidMap, InvalidReaders, Ringed
from maplost.truth import true_map
from tests.helpers import (
    Case, any_values, frozen, house_names, lists_in, random_found, random_network, random_tree, seeded,
)

A, B, C, D = ("ann", "1"), ("bo", "1"), ("cy", "1"), ("dee", "1")
FOUNDS = [("ann", [A, B, C, D]), ("cy", [C, B, A, D]), ("dee", [D, B, A, C])]
FOUR = [(None, [A, B, C, D]), (None, [A, B, D, C]), (None, [B, A, C, D]), (None, [B, A, D, C])]
BIG_RING = [(None, [("a", "1"), ("b", "1"), ("b", "2"), ("c", "1"), ("c", "2"), ("a", "2")]),
            (None, [("b", "1"), ("a", "1"), ("c", "1"), ("b", "2"), ("a", "2"), ("c", "2")])]
FINE = [((1,), 2, (("bo", "ann"), ("cy", "ann"), ("cy", "bo"))), ((1, 2), 1, (("bo", "ann"),))]


def slow_cuts(founds):
    """For each cut its arrows, as the words of point 8 tell them."""
    rows = [list(lines) for own, lines in founds]
    common = [line for line in rows[0] if all(line in row for row in rows)]
    told = {}
    for a, b in permutations(common, 2):
        lot = tuple(k for k, row in enumerate(rows) if row.index(a) < row.index(b))
        if lot and 0 not in lot:
            told.setdefault(lot, set()).add((a[0], b[0]))
    return told


def slow_longest(arrows):
    """The number of names in a longest row, or None if there is a ring."""
    ends, many = {name for pair in arrows for name in pair}, 0
    while ends:
        many += 1
        if many > 80:
            return None
        ends = {b for a, b in arrows if a in ends}
    return many


def do_cross(lot, other):
    return bool(set(lot) & set(other)) and not set(lot) <= set(other) and not set(other) <= set(lot)


def stand_so(founds, shown):
    """Whether the words of point 82 hold for a tuple of lines and readers of the founds."""
    a, b, c, d, readers = shown
    rows = [list(founds[k][1]) for k in readers]
    told = [(row.index(a) < row.index(b), row.index(c) < row.index(d)) for row in rows]
    return a != b and c != d and told == [(True, True), (True, False), (False, True), (False, False)]


def random_founds(dice):
    """Founds at random, which need not be those of a network."""
    names = "abcdef"[:dice.randrange(1, 7)]
    lines = [(name, "x") for name in names] if dice.random() < 0.6 else [(dice.choice(names), str(k)) for k in range(5)]
    base, founds = list(lines), []
    for _ in range(dice.randrange(1, 6)):
        row = list(base)
        for _ in range(dice.randrange(4)):
            k = dice.randrange(len(row))
            row[k - 1], row[k] = row[k], row[k - 1]
        founds.append((None, row[:len(row) if dice.random() < 0.8 else dice.randrange(len(row) + 1)]))
    return founds


class TestCuts(Case):
    def test_by_the_words(self):
        dice = seeded(61)
        seen = {"ring": 0, "cross": 0, "nothing": 0, "two roads": 0}
        for _ in range(1500):
            founds = random_founds(dice)
            before = frozen(founds)
            expected = slow_cuts(founds)
            if any(slow_longest(arrows) is None for arrows in expected.values()):
                seen["ring"] += 1
                with self.assertRaises(Ringed) as caught:
                    cuts(founds)
                names = caught.exception.names
                self.assertIs(type(names), tuple)
                self.assertEqual(len(set(names)), len(names))
                pairs = set(zip(names, (*names[1:], names[0])))
                self.assertTrue(any(pairs <= arrows for arrows in expected.values()))
            else:
                told = cuts(founds)
                self.assertIs(type(told), list)
                self.assertEqual(told, sorted((lot, slow_longest(arrows) - 1, tuple(sorted(arrows)))
                                              for lot, arrows in expected.items()))
                seen["nothing"] += not told
                seen["two roads"] += any(roads > 1 for lot, roads, arrows in told)
            shown = cross(founds)
            crossing = any(do_cross(lot, other) for lot in expected for other in expected)
            seen["cross"] += crossing
            if crossing:
                self.assertIs(type(shown), tuple)
                self.assertTrue(stand_so(founds, shown))
                self.assertIs(is_cross(founds, shown), True)
            else:
                self.assertIs(shown, None)
            self.assertIs(is_cross(founds, None), False)
            self.assertEqual(frozen(founds), before)
        self.assertGreater(min(seen.values()), 50, seen)

    def test_edges(self):
        self.assertEqual([cuts([(None, [])]), cuts([("ann", [A, B])]), cuts([(None, [A, B])] * 12)], [[], [], []])
        self.assertEqual([cross([(None, [])]), cross([("ann", [A, B])]), cross(FOUNDS)], [None, None, None])
        # Lines that one log alone has part nobody, nor do two lines that one log alone has.
        self.assertEqual(cuts([(None, [A, B]), (None, [B])]), [])
        self.assertEqual(cuts([(None, [A, B, C]), (None, [B, A]), (None, [B])]), [])
        self.assertEqual(cuts([(None, [A, B]), (None, [B, D, A])]), [((1,), 1, (("bo", "ann"),))])

    def test_arrows_lead_from_the_lot(self):
        self.assertEqual(cuts([(None, [A, B]), (None, [B, A])]), [((1,), 1, (("bo", "ann"),))])
        self.assertEqual(cuts([(None, [B, A]), (None, [A, B])]), [((1,), 1, (("ann", "bo"),))])
        self.assertEqual(cuts([(None, [B, A]), (None, [B, A]), (None, [A, B])]), [((2,), 1, (("ann", "bo"),))])
        self.assertEqual(cuts([(None, [B, A]), (None, [A, B]), (None, [A, B])]), [((1, 2), 1, (("ann", "bo"),))])

    def test_cuts_that_cross_are_told(self):
        self.assertEqual(cuts(FOUR), [((1, 3), 1, (("dee", "cy"),)), ((2, 3), 1, (("bo", "ann"),))])

    def test_rings_of_one_cut_alone(self):
        again = ("ann", "2")
        self.raises(Ringed, {"names": ("ann",)}, cuts, [(None, [A, again]), (None, [again, A])])
        with self.assertRaises(Ringed) as caught:
            cuts(BIG_RING)
        self.assertEqual(set(caught.exception.names), {"a", "b", "c"})
        # By one cut an arrow leads from ann to bo, by the other one from bo to ann.
        other = ("bo", "2")
        founds = [(None, [B, A, again, other]), (None, [A, B, again, other]), (None, [A, B, other, again])]
        self.assertEqual(cuts(founds), [((1, 2), 1, (("ann", "bo"),)), ((2,), 1, (("bo", "ann"),))])

    def test_large(self):
        lines = [(name, "x") for name in house_names(40)]
        founds = [(None, lines[::-1] if k % 2 else lines) for k in range(12)]
        self.assertEqual([cut[:2] for cut in cuts(founds)], [((1, 3, 5, 7, 9, 11), 39)])
        dice = seeded(62)
        founds = [(None, dice.sample(lines, 40)) for _ in range(12)]
        self.assertTrue(stand_so(founds, cross(founds)))
        self.assertEqual({cut[0]: set(cut[2]) for cut in cuts(founds)}, slow_cuts(founds))

    def test_new_and_equal(self):
        for founds in [FOUNDS, FOUR]:
            other = tuple((own, tuple(lines)) for own, lines in founds)
            self.assertEqual([cuts(other), cross(other)], [cuts(founds), cross(founds)])
            told = cuts(founds=founds)
            self.assertEqual(len(lists_in(told)), 1)
            told.clear()
            self.assertNotEqual(cuts(founds), [])

    def test_invalid_founds(self):
        values = [[], [("ann", [A, A])], [("ann", []), ("ann", [])], *any_values()]
        for value in values:
            if value not in ([("ann", [])], [(None, [])], ((None, ()),), [(None, [("ann", "x")])]):
                self.raises(InvalidFounds, {"given": value}, cuts, value)
                self.raises(InvalidFounds, {"given": value}, cross, value)
                self.raises(InvalidFounds, {"given": value}, is_cross, value, value)


class TestIsCross(Case):
    def test_all_tuples(self):
        founds = [(None, [A, B, C]), (None, [A, C, B]), (None, [B, A, C]), (None, [C, B, A]), (None, [C, A, B])]
        told = 0
        for a, b, c, d in product([A, B, C], repeat=4):
            for readers in product(range(5), repeat=4):
                expected = stand_so(founds, (a, b, c, d, readers))
                told += expected
                self.assertIs(is_cross(founds, (a, b, c, d, readers)), expected)
        self.assertGreater(told, 4)

    def test_wrong_values(self):
        right = (A, B, C, D, (0, 1, 2, 3))
        self.assertIs(is_cross(value=right, founds=FOUR), True)
        wrong = [right[:4], right + (0,), list(right), (A, B, C, D, [0, 1, 2, 3]), (A, B, C, D, (0, 1, 2)), (A, B, C, D, (0, 1, 2, 3, 3)),
                 (A, B, C, D, (0, True, 2, 3)), (A, B, C, D, (False, 1, 2, 3)), (A, B, C, D, (0, 1, 2, 4)), (A, B, C, D, (0, 1, 2, -1)),
                 (A, B, C, D, (0, 1, 2, None)), (list(A), B, C, D, right[4]), (A, B, C, list(D), right[4]), (A, B, C, ("eve", "1"), right[4]),
                 (A, B, C, None, right[4]), (B, A, C, D, right[4]), (A, B, C, D, None), (A, B, C, D, ((0,), 1, 2, 3)), (A, A, C, D, right[4])]
        for value in wrong:
            self.assertIs(is_cross(FOUR, value), False, value)
        self.is_bool_for_all(lambda value: is_cross(FOUR, value), lambda value: False)
        # A line that one reader lacks is not common, even if the four readers have it.
        self.assertIs(is_cross([*FOUR, (None, [A, B, C])], right), False)
        self.assertIs(is_cross([*FOUR, (None, [D, A, B, C])], right), True)


def slow_is_map(value, readers):
    """Whether the words of point 83 hold for any value."""
    if type(value) not in (list, tuple):
        return False
    lots = []
    for cut in value:
        if type(cut) is not tuple or len(cut) != 3:
            return False
        lot, roads, arrows = cut
        if type(lot) is not tuple or not lot or any(type(k) is not int or not 0 < k < readers for k in lot):
            return False
        if sorted(set(lot)) != list(lot) or type(roads) is not int or roads < 1 or type(arrows) is not tuple:
            return False
        for pair in arrows:
            if type(pair) is not tuple or len(pair) != 2 or any(type(name) is not str for name in pair):
                return False
            if any(not 1 <= len(name) <= 8 or any(sign not in "abcdefghijklmnopqrstuvwxyz" for sign in name) for name in pair):
                return False
            if pair[0] == pair[1]:
                return False
        many = slow_longest(arrows)
        if sorted(set(arrows)) != list(arrows) or many is None or many > roads + 1:
            return False
        lots.append(lot)
    return sorted(set(lots)) == lots and not any(do_cross(lot, other) for lot in lots for other in lots)


def random_map(dice):
    """The true map of a tree at random, and the number of its readers."""
    houses = dice.randrange(2, 9)
    tree = random_tree(dice, houses)
    readers = dice.randrange(1, houses + 1)
    return true_map(tree, house_names(houses), dice.sample(range(houses), readers)), readers


def spoilt(dice, drawn, readers):
    """A map that is changed in one thing."""
    cut = dice.randrange(len(drawn))
    lot, roads, arrows = drawn[cut]
    some = dice.sample(arrows, dice.randrange(len(arrows) + 1))
    pair = dice.choice(arrows)
    changed = dice.choice([
        (lot, roads - 1, arrows), (lot, roads + 1, arrows), (lot, roads, ()), (lot, roads, tuple(some)), (lot, roads, arrows + (pair,)),
        (lot, roads, tuple(sorted(some))), (lot, roads, tuple(sorted((*arrows, pair[::-1])))), (lot, roads, tuple(sorted((*some, (pair[0],) * 2)))),
        (lot[::-1], roads, arrows), (lot[1:], roads, arrows), ((0, *lot), roads, arrows), ((*lot, readers), roads, arrows),
        (tuple(sorted(dice.sample(range(1, readers), dice.randrange(1, readers)))), roads, arrows), (lot + lot, roads, arrows),
        (list(lot), roads, arrows), (lot, str(roads), arrows), (lot, roads, list(arrows)), [lot, roads, arrows], (lot, roads), None,
        (lot, bool(roads), arrows), (tuple(map(bool, lot)), roads, arrows), (lot, roads, (list(pair),)), (lot, roads, (pair + ("q",),)),
        (lot, roads, (("Ann", "b"),)), (lot, roads, ((pair[0], None),)), (lot, roads, pair), (lot, 10 ** 19, arrows), (lot, -1, ()),
    ])
    return [*drawn[:cut], changed, *drawn[cut + 1:]]


class TestIsMap(Case):
    def test_true_maps_and_spoilt_ones(self):
        dice = seeded(63)
        seen = {True: 0, False: 0}
        for _ in range(4000):
            drawn, readers = random_map(dice)
            self.assertIs(is_map(drawn, readers), True)
            if drawn:
                value = spoilt(dice, drawn, readers)
                expected = slow_is_map(value, readers)
                seen[expected] += 1
                self.assertIs(is_map(value, readers), expected, (value, readers))
        self.assertGreater(min(seen.values()), 300, seen)

    def test_each_condition(self):
        one = ((1,), 1, ())
        right = [([], 1), ((), 12), ([one], 2), ((one,), 2), (FINE, 3), (FINE, 12), ([((1,), 10 ** 19, ())], 2),
                 ([one, ((1, 2), 1, ()), ((2,), 1, ())], 3), ([one, ((2, 3), 4, ())], 4), ([((11,), 1, (("a", "b"), ("c", "d")))], 12),
                 ([((1,), 1, (("a", "b"), ("c", "b")))], 2)]
        for value, readers in right:
            self.assertIs(is_map(value, readers), True, value)
        wrong = [
            ([one], 1), ([one, one], 2), ([((2,), 1, ()), one], 3), ([((1, 2), 1, ()), one], 3), ([((1, 2), 1, ()), ((2, 3), 1, ())], 4),
            ([((), 1, ())], 2), ([((0,), 1, ())], 2), ([((0, 1), 1, ())], 2), ([((2, 1), 1, ())], 3), ([((1, 1), 1, ())], 3), ([((3,), 1, ())], 3),
            ([((1,), 0, ())], 2), ([((1,), -1, ())], 2), ([((1,), True, ())], 2), ([((True,), 1, ())], 2), ([((1, True), 1, ())], 3),
            ([((1,), None, ())], 2), ([((1,), "1", ())], 2), ([((1,), 1, None)], 2), ([((1,), 1, [])], 2), ([([1], 1, ())], 2), ([[(1,), 1, ()]], 2),
            ([(1, 1, ())], 2), ([((1,), 1)], 2), ([((1,), 1, (), ())], 2), ([((1,), 1, (["a", "b"],))], 2), ([((1,), 1, (("a", "b", "c"),))], 2),
            ([((1,), 1, (("a", "a"),))], 2), ([((1,), 1, (("a", "b"), ("a", "b")))], 2), ([((1,), 1, (("b", "a"), ("a", "c")))], 2),
            ([((1,), 9, (("a", "b"), ("b", "a")))], 2), ([((1,), 9, (("a", "b"), ("b", "c"), ("c", "a")))], 2),
            ([((1,), 1, (("a", "b"), ("b", "c")))], 2), ([((1,), 2, (("a", "b"), ("b", "c"), ("c", "d")))], 2), ([((1,), 1, (("A", "b"),))], 2),
            ([((1,), 1, (("", "b"),))], 2), ([((1,), 1, (("ab", "abcdefghi"),))], 2), ([((1,), 1, ("ab",))], 2), ([((1,), 1, (("a", 1),))], 2),
            ({"a": one}, 2), (one, 2), (None, 1), ("", 1), ([None], 1), ([((1,), 1, ()), None], 2), ([((None,), 1, ())], 2), ([(((1,),), 1, ())], 2),
        ]
        for value, readers in wrong:
            self.assertIs(is_map(value, readers), False, value)
        self.is_bool_for_all(lambda value: is_map(value, 3), lambda value: type(value) in (list, tuple) and len(value) == 0)
        self.assertIs(is_map(readers=1, value=[]), True)

    def test_large(self):
        names = house_names(64)
        chain = tuple(sorted(zip(names, names[1:])))
        self.assertEqual([is_map([((1,), roads, chain)], 2) for roads in (62, 63)], [False, True])
        rows = tuple(sorted((a, b) for k, a in enumerate(names) for b in names[k + 1:]))
        self.assertEqual([is_map([((1,), roads, rows)], 2) for roads in (62, 63)], [False, True])
        self.assertIs(is_map([((1,), 63, tuple(sorted((*rows, (names[63], names[0])))))], 2), False)
        lots = sorted(tuple(k for k in range(1, 12) if number >> k & 1) for number in range(2, 4096, 2))
        self.assertIs(is_map([(lot, 1, ()) for lot in lots], 12), False)
        nested = sorted([*[(k,) for k in range(1, 12)], *[tuple(range(1, k)) for k in range(3, 13)]])
        self.assertEqual([len(nested), is_map([(lot, 1, ()) for lot in nested], 12)], [21, True])


class TestComesOf(Case):
    def test_by_the_words(self):
        dice = seeded(64)
        seen = {True: 0, False: 0}
        for _ in range(1500):
            fine, readers = random_map(dice)
            rough = []
            for lot, roads, arrows in fine:
                if dice.random() < 0.8:
                    kept = tuple(arrow for arrow in arrows if dice.random() < 0.7)
                    fewest = max(1, (slow_longest(kept) or 0) - 1)
                    rough.append((lot, dice.randrange(fewest, roads + 1) if fewest < roads else fewest, kept))
            self.assertIs(comes_of(rough, fine, readers), True)
            other, many = random_map(dice)
            if many == readers:
                told = {lot: (roads, arrows) for lot, roads, arrows in fine}
                expected = all(lot in told and roads <= told[lot][0] and set(arrows) <= set(told[lot][1]) for lot, roads, arrows in other)
                seen[expected] += 1
                self.assertIs(comes_of(other, fine, readers), expected)
        self.assertGreater(min(seen.values()), 10, seen)

    def test_each_condition(self):
        self.assertIs(comes_of(readers=3, fine=FINE, rough=FINE), True)
        self.assertIs(comes_of([], [], 1), True)
        self.assertIs(comes_of([], FINE, 3), True)
        self.assertIs(comes_of(FINE, [], 3), False)
        self.assertIs(comes_of([((1,), 2, ())], FINE, 3), True)
        self.assertIs(comes_of([((1,), 3, ())], FINE, 3), False)
        self.assertIs(comes_of([((2,), 1, ())], FINE, 3), False)
        self.assertIs(comes_of([((1, 2), 1, (("ann", "bo"),))], FINE, 3), False)
        self.assertIs(comes_of([((1,), 1, ()), ((1, 2), 2, ())], FINE, 3), False)
        self.assertIs(comes_of(tuple(FINE), FINE, 3), True)

    def test_errors(self):
        for value in any_values():
            if type(value) is not int or not 1 <= value <= 12:
                for call in [is_map, lambda drawn, readers: comes_of(drawn, drawn, readers)]:
                    self.raises(InvalidReaders, {"given": value}, call, None, value)
            if type(value) not in (list, tuple) or len(value):
                self.raises(InvalidMap, {"given": value}, comes_of, value, None, 3)
                self.raises(InvalidMap, {"given": value}, comes_of, FINE, value, 3)
        for value in [0, 13, -1, True, False]:
            self.raises(InvalidReaders, {"given": value}, is_map, [], value)
        first, second = [((2,), 1, ())], [((3,), 1, ())]
        self.raises(InvalidMap, {"given": first}, comes_of, first, second, 2)
        self.raises(InvalidMap, {"given": second}, comes_of, first, second, 3)
        self.assertIs(comes_of(first, second, 12), False)


class TestFoundsOfNetworks(Case):
    def test_no_ring_and_no_cross(self):
        dice = seeded(65)
        for _ in range(100):
            network = random_network(dice, dice.randrange(1, 9), 12, dice.choice([0, 0.1]))
            seats = dice.sample(range(len(network.tree)), dice.randrange(1, len(network.tree) + 1))
            founds = [random_found(dice, network, house) for house in seats]
            self.assertIs(cross(founds), None)
            self.assertIs(is_map(cuts(founds), len(seats)), True)
