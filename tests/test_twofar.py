"""Points 75 and 76: how far a name is by two logs, and which name is surely nearer."""

from maplost.errors import InvalidFounds, InvalidIndex, InvalidName, Nobodys, NotTwo
from maplost.trees import foot, way
from maplost.two import is_two_picture, two_fit, two_roads
from maplost.twofar import two_far, two_nearer
from tests.helpers import Case, any_values, frozen, house_names, random_found, random_network, seeded
from tests.slow import can_be, levels_of
from tests.test_two import C, NOBODYS, U, W, holds, random_two, slow_arrows, swapped_two

X, M, Y = ("ann", "x"), ("cy", "m"), ("bo", "y")
FOUNDS = [(None, [X, M, Y]), (None, [Y, M, X])]


def all_names(founds):
    return sorted({line[0] for own, lines in founds for line in lines} | {own for own, lines in founds if own})


def item_of(founds, name):
    owns = [own for own, lines in founds]
    return owns.index(name) if name in owns else name


def held(founds):
    """The arrows of each choice that holds, as the words of point 71 tell them."""
    return [pairs for pairs in (slow_arrows(founds, 0), slow_arrows(founds, 1)) if holds(pairs)]


def longest_to(pairs, item):
    """The number of arrows in a longest row that ends in an item; there is no ring."""
    return max([longest_to(pairs, x) + 1 for x, y in pairs if y == item], default=0)


def leads(pairs, x, y):
    return any(a == x and (b == y or leads(pairs, b, y)) for a, b in pairs)


def far_by_words(founds, reader, name):
    owns = [own for own, lines in founds]
    if name == owns[reader]:
        return 0
    if name == owns[1 - reader]:
        return two_roads(founds)
    counts = []
    for pairs in held(founds):
        if reader == 1:
            pairs = {(b, a) for a, b in pairs}
        counts.append(max(1, longest_to(pairs, name)))
    return min(counts)


def nearer_by_words(founds, first, second):
    x, y = item_of(founds, first), item_of(founds, second)
    for pairs in held(founds):
        to_second, from_first = [a for a, b in pairs if b == y], [b for a, b in pairs if a == x]
        if not (leads(pairs, x, y) or (x == 0 and to_second) or (y == 1 and from_first)):
            return False
    return True


def all_levels(founds, most):
    """All (roads, levels) by which rows of the houses of a way of up to so many roads lead from log to log."""
    for roads in range(1, most + 1):
        for level in levels_of(founds, roads):
            if can_be(founds, level, roads):
                level.update({own: end for (own, lines), end in zip(founds, (0, roads)) if own})
                yield roads, level


def least_distance(founds, reader, name, level, roads):
    """How near the house of a name can be to a reader, if it hangs at its level on a way of so many roads."""
    if founds[reader][0] == name:
        return 0
    at = level[name] if reader == 0 else roads - level[name]
    if founds[1 - reader][0] == name or 0 < at < roads:
        return at
    return at + 1


class TestTwoFar(Case):
    def test_by_the_words(self):
        dice = seeded(51)
        seen = {}
        for k in range(1500):
            founds = random_two(dice, 4) if k % 2 else swapped_two(dice)
            if not two_fit(founds):
                continue
            before = frozen(founds)
            for name in all_names(founds):
                for reader in (0, 1):
                    told = two_far(founds, reader, name)
                    self.assertIs(type(told), int)
                    self.assertEqual(told, far_by_words(founds, reader, name), (founds, reader, name))
                    seen[told] = seen.get(told, 0) + 1
                for other in all_names(founds):
                    if other != name:
                        told = two_nearer(founds, name, other)
                        self.assertIs(type(told), bool)
                        self.assertEqual(told, nearer_by_words(founds, name, other), (founds, name, other))
                        seen[str(told)] = seen.get(str(told), 0) + 1
            self.assertEqual(frozen(founds), before)
        self.assertTrue(all(seen[told] > 20 for told in (0, 1, 2, 3, "True", "False")), seen)

    def test_by_all_rows_of_ways(self):
        dice = seeded(52)
        many = 0
        while many < 60:
            founds = random_two(dice, 3)
            if not two_fit(founds):
                continue
            many += 1
            networks = list(all_levels(founds, 4))
            for name in all_names(founds):
                for reader in (0, 1):
                    least = min(least_distance(founds, reader, name, level, roads) for roads, level in networks)
                    self.assertEqual(two_far(founds, reader, name), least, (founds, reader, name))
                for other in all_names(founds):
                    if other != name:
                        sure = all(level[name] < level[other] for roads, level in networks)
                        self.assertEqual(two_nearer(founds, name, other), sure, (founds, name, other))

    def test_founds_of_networks(self):
        dice = seeded(53)
        for _ in range(120):
            network = random_network(dice, dice.randrange(2, 9), 12, dice.choice([0, 0.1, 0.3]))
            tree, names = network.tree, network.names
            seats = dice.sample(range(len(tree)), 2)
            founds = [random_found(dice, network, house) for house in seats]
            feet = {name: len(way(tree, seats[0], foot(tree, *seats, house))) for house, name in enumerate(names)}
            for name in all_names(founds):
                for reader in (0, 1):
                    true = len(way(tree, seats[reader], names.index(name))) - 1
                    self.assertLessEqual(two_far(founds, reader, name), true)
                for other in all_names(founds):
                    if other != name and two_nearer(founds, name, other):
                        self.assertLess(feet[name], feet[other])

    def test_owns(self):
        founds = [("ann", [X, M, Y]), ("bo", [Y, M, X])]
        self.assertEqual([two_far(founds, k, name) for k in (0, 1) for name in ("ann", "cy", "bo")], [0, 1, 2, 2, 1, 0])
        silent = [("dan", [X, M, Y]), ("eve", [Y, M, X])]
        self.assertEqual([two_far(silent, k, name) for k in (0, 1) for name in ("dan", "eve")], [0, 2, 2, 0])
        self.assertEqual([two_nearer(silent, "dan", "eve"), two_nearer(silent, "eve", "dan")], [True, False])
        self.assertEqual([two_nearer(silent, "dan", "ann"), two_nearer(silent, "dan", "bo")], [False, True])
        self.assertEqual([two_nearer(silent, "ann", "eve"), two_nearer(silent, "bo", "eve")], [True, False])
        empty = [("ann", []), ("bo", [])]
        self.assertEqual([two_far(empty, 0, "bo"), two_nearer(empty, "ann", "bo"), two_nearer(empty, "bo", "ann")], [1, True, False])

    def test_both_choices_count(self):
        # By the choice 0 an arrow leads from ann to the end 1, by the choice 1 one from the end 0 to bo.
        founds = [(None, [C, U]), (None, [C, Y])]
        self.assertEqual([two_nearer(founds, "ann", "bo"), two_far(founds, 0, "bo"), two_far(founds, 1, "ann")], [False, 1, 1])
        founds = [(None, [U, C]), ("dan", [W, C])]
        self.assertEqual([two_nearer(founds, "ann", "dan"), two_nearer(founds, "cy", "dan")], [True, False])

    def test_by_name_and_tuples(self):
        founds = tuple((own, tuple(lines)) for own, lines in FOUNDS)
        self.assertEqual(two_far(name="bo", reader=0, founds=founds), 2)
        self.assertEqual(two_nearer(second="bo", first="ann", founds=founds), True)

    def test_longest(self):
        names = house_names(40)
        lines = [(name, "x") for name in names]
        founds = [(None, lines), (None, lines[::-1])]
        self.assertEqual([two_far(founds, 0, name) for name in names], [1, *range(1, 40)])
        self.assertEqual([two_far(founds, 1, name) for name in names], [*range(39, 0, -1), 1])
        self.assertEqual([two_nearer(founds, names[0], names[39]), two_nearer(founds, names[39], names[0])], [True, False])


class TestErrors(Case):
    def test_founds_first(self):
        for value in any_values():
            if value in ([("ann", [])], [(None, [])], ((None, ()),), [(None, [("ann", "x")])]):
                self.raises(NotTwo, {"many": 1}, two_far, value, value, value)
                self.raises(NotTwo, {"many": 1}, two_nearer, value, value, value)
            else:
                self.raises(InvalidFounds, {"given": value}, two_far, value, value, value)
                self.raises(InvalidFounds, {"given": value}, two_nearer, value, value, value)
        three = [*FOUNDS, (None, [])]
        self.raises(NotTwo, {"many": 3}, two_far, three, None, None)
        self.raises(NotTwo, {"many": 3}, two_nearer, three, None, None)

    def test_nobodys(self):
        for call in [two_far, two_nearer]:
            with self.assertRaises(Nobodys) as caught:
                call(NOBODYS, None, None)
            self.assertIs(is_two_picture(NOBODYS, caught.exception.picture), True)

    def test_reader_and_name(self):
        for value in any_values():
            if type(value) is not int or value not in (0, 1):
                self.raises(InvalidIndex, {"given": value}, two_far, FOUNDS, value, value)
            if value != "ann":
                self.raises(InvalidName, {"given": value}, two_far, FOUNDS, 0, value)
                self.raises(InvalidName, {"given": value}, two_nearer, FOUNDS, value, [])
                self.raises(InvalidName, {"given": value}, two_nearer, FOUNDS, value, "ann")
            self.raises(InvalidName, {"given": value}, two_nearer, FOUNDS, "ann", value)
        for value in ["dan", "cyy", "c", None, 0, 1]:
            self.raises(InvalidName, {"given": value}, two_far, [("ann", [M]), (None, [M])], 0, value)
        self.raises(InvalidName, {"given": "cy"}, two_nearer, FOUNDS, "cy", "cy")
        self.raises(InvalidIndex, {"given": 2}, two_far, FOUNDS, 2, "dan")
        self.raises(InvalidIndex, {"given": -1}, two_far, FOUNDS, -1, "ann")
