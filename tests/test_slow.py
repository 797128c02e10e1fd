"""Points 191 and 193: all runs of few lines, and the plain trials behind the fewest houses and the roads of two logs."""

from itertools import combinations, permutations, product

from maplost.errors import InvalidFounds, InvalidWriters, LostError, NotTwo, NotWhole, TooMany
from maplost.fewest import fewest
from maplost.networks import Network, both_ways, run_network
from maplost.pictures import fits
from maplost.runs import script_behind
from maplost.slow import least_slow, tables, two_slow
from maplost.trees import Tree, read_tree
from maplost.two import two_fit, two_roads
from tests.helpers import Case, any_values, frozen, lists_in, path, random_tree, seeded
from tests.slow import slow_roads
from tests.slow_whole import fewest_slow
from tests.test_pictures import ANY_WHOLE, AWAY, HOME, RINGED, THREE, random_whole
from tests.test_two import random_two, swapped_two

LETTERS = "abcdefghijklmnopqrstuvwxyz"
A, B, C, D = ("ann", "1"), ("bo", "1"), ("cy", "1"), ("dee", "1")
X, M, Y = ("ann", "x"), ("cy", "m"), ("bo", "y")


def deeds_next(network, writers):
    """The deeds that can be done next in a run of point 191."""
    deeds = []
    for house in range(len(network.tree)):
        made = sum(deed[:2] == ("make", house) for deed in network.script)
        if made < sum(writer == house for writer in writers):
            deeds.append(("make", house, str(made)))
    deeds.extend(("hand", u, v) for u, v in both_ways(network.tree) if network.under_way(u, v))
    return deeds


def plain_tables(tree, writers):
    """All lists of logs that runs meet, and of these those of ended runs, by deeds of networks."""
    scripts, ended, met = [()], set(), set()
    while scripts:
        script = scripts.pop()
        network = run_network(tree, list(LETTERS[:len(tree)]), script)
        logs = tuple(network.log(house) for house in range(len(tree)))
        if logs not in met:
            met.add(logs)
            deeds = deeds_next(network, writers)
            if not deeds:
                ended.add(logs)
            scripts.extend((*script, deed) for deed in deeds)
    return len(met), [list(logs) for logs in sorted(ended)]


class TestTables(Case):
    def test_by_deeds(self):
        dice = seeded(241)
        many = 0
        for _ in range(80):
            tree = random_tree(dice, dice.randrange(2, 5))
            writers = [dice.randrange(len(tree)) for _ in range(dice.choice([0, 1, 2, 2, 2, 3]))]
            met, expected = plain_tables(tree, writers)
            if met <= 600:
                many += len(expected) > 1
                told = tables(tree, writers)
                self.assertEqual(told, expected)
                self.assertEqual(tables(writers=tuple(writers), tree=tree), expected)
                self.assertTrue(all(type(logs) is list and all(type(log) is tuple for log in logs) for logs in told))
        self.assertGreater(many, 25)

    def test_the_order_of_writers_does_not_matter(self):
        tree = path(3)
        self.assertEqual(tables(tree, [0, 2, 0]), tables(tree, [0, 0, 2]))
        self.assertEqual(tables(tree, [2, 0, 0]), tables(tree, [0, 0, 2]))
        self.assertEqual(tables(tree, [0, 0, 2])[0][0][0], ("a", "0"))

    def test_edges(self):
        self.assertEqual([tables(Tree(1, []), []), tables(Tree(1, []), [0, 0])], [[[()]], [[(("a", "0"), ("a", "1"))]]])
        self.assertEqual(tables(path(3), ()), [[(), (), ()]])
        # One writer alone leaves one list of logs, silent houses included.
        row = (("c", "0"), ("c", "1"))
        self.assertEqual(tables(path(4), [2, 2]), [[row] * 4])
        last = tables(path(26), [25])
        self.assertEqual(last, [[(("z", "0"),)] * 26])
        # Two lines meet on each road, or at each house, or the one is made behind the other.
        a, b = ("a", "0"), ("c", "0")
        self.assertEqual(tables(path(3), [0, 2]), sorted([[(a, b), (a, b), (b, a)], [(a, b), (b, a), (b, a)], [(a, b)] * 3, [(b, a)] * 3]))

    def test_trees_of_more_houses_have_names_too(self):
        told = tables(path(30), [29])
        self.assertEqual(len({name for log in told[0] for name, text in log}), 1)
        self.assertEqual(len(told[0]), 30)

    def test_new_lists(self):
        told = tables(path(2), [0, 1])
        self.assertEqual([len(told), len(lists_in(told)), len({id(row) for row in lists_in(told)})], [3, 4, 4])
        told[0].append(1)
        told.pop()
        self.assertEqual(len(tables(path(2), [0, 1])), 3)
        writers = [0, 1]
        tables(path(2), writers)
        self.assertEqual(writers, [0, 1])

    def test_invalid_writers(self):
        tree = path(2)
        wrong = [[2], [-1], [0, True], [False], [None], ["0"], [[0]], [(0,)], [0, 1, 2], "01", {0: 1}, {}, None, 0, [10 ** 19], [0] * 2999 + [None]]
        fine = [[], (), (0, 1)]
        for value in wrong + [value for value in any_values() if value not in fine or type(value[-1:]) is tuple and True in [type(k) is bool for k in value]]:
            self.raises(InvalidWriters, {"given": value}, tables, tree, value)
        self.assertEqual([len(tables(tree, value)) for value in fine], [1, 1, 3])

    def test_three_thousand(self):
        one = Tree(1, [])
        self.assertEqual([len(row) for row in tables(one, [0] * 2999)[0]], [2999])
        self.raises(TooMany, {"count": 3001}, tables, one, [0] * 3000)
        # Just 3000 lists of logs by two writers, which a trial by deeds of networks counted, too.
        tree = read_tree("10: 0-1 0-2 0-3 1-6 1-7 2-9 3-4 4-5 4-8")
        self.assertEqual(len(tables(tree, [3, 8])), 4)
        # Two houses, n lines of one of them: (n + 1) (n + 2) / 2 lists of logs.
        self.assertEqual(len(tables(path(2), [0] * 75)), 1)
        self.raises(TooMany, {"count": 3001}, tables, path(2), [0] * 76)
        self.assertEqual(plain_tables(path(2), [0, 0, 0])[0], 10)

    def test_refused_on_the_way(self):
        star = Tree(26, [(0, k) for k in range(1, 26)])
        for tree, writers in [(star, [0]), (star, [k % 26 for k in range(40)]), (path(26), list(range(26))), (path(26), [0] * 40), (path(2), [0, 1] * 20)]:
            self.raises(TooMany, {"count": 3001}, tables, tree, writers)
        writers = [25] * 39 + [26]
        self.raises(InvalidWriters, {"given": writers}, tables, star, writers)

    def test_all_networks_behind_are_found(self):
        """Each list of logs that is right at all roads is left by a run, and no other one."""
        for tree, writers in [(path(3), [0, 2]), (path(3), [0, 1]), (Tree(4, [(0, 1), (0, 2), (0, 3)]), [1, 2])]:
            names = list(LETTERS[:len(tree)])
            lines = [(names[house], "0") for house in writers]
            told = []
            for rows in product(permutations(lines), repeat=len(tree)):
                try:
                    script_behind(tree, names, rows)
                    told.append(list(rows))
                except LostError:
                    pass
            self.assertEqual(tables(tree, writers), sorted(told))


class TestLeastSlow(Case):
    def test_against_fewest(self):
        dice = seeded(242)
        seen = {}
        for _ in range(500):
            founds = random_whole(dice, 4)
            before = frozen(founds)
            expected = fewest(founds) if fits(founds) else None
            if expected is not None and expected > 5:
                expected = None
            told = least_slow(founds)
            self.assertEqual(told, expected, founds)
            seen[told] = seen.get(told, 0) + 1
            self.assertEqual(frozen(founds), before)
        self.assertGreater(min(seen.get(told, 0) for told in (None, 1, 2, 3, 4, 5)), 20, seen)

    def test_against_another_trial(self):
        dice = seeded(243)
        for _ in range(80):
            founds = random_whole(dice, 3)
            self.assertEqual(least_slow(founds), fewest_slow(founds, 5), founds)

    def test_edges(self):
        cases = [([("ann", [])], 1), ([(None, [])], 1), ([(None, [A])], 2), ([("ann", [A])], 1), ([("bo", [A])], 2), ([(None, [])] * 5, 5),
                 ([(None, [])] * 6, None), ([(None, [A])] * 4, 5), ([(None, [A])] * 5, None), ([("dan", [A, B]), ("eve", [B, A])], 4),
                 ([("dan", [A, B, C]), ("eve", [C, B, A])], 5), ([(None, [A, B, C, D])], 5), ([("eve", (A, B, C, D))], 5), ([("ann", [A, B, C, D])], 4),
                 ([("ann", [A]), ("bo", [A]), ("cy", [A]), ("dee", [A]), ("eve", [A])], 5), ([(None, [A]), ("b", [A]), ("c", [A]), ("d", [A]), ("e", [A])], None),
                 ([(None, [("ann", str(k)) for k in range(4)])], 2)]
        for founds, expected in cases:
            self.assertEqual(least_slow(founds), expected, founds)
            self.assertEqual(least_slow(founds=tuple((own, tuple(lines)) for own, lines in founds)), expected)
        for founds in [AWAY, HOME, RINGED, THREE]:
            self.assertIs(least_slow(founds), None)

    def test_the_own_is_the_name_of_the_house(self):
        self.assertEqual([least_slow([("ann", [A, B]), ("bo", [B, A])]), least_slow([("ann", [B, A]), ("bo", [A, B])])], [2, None])
        self.assertEqual([least_slow([(None, [A, B]), ("bo", [B, A])]), least_slow([("cy", [A, B]), ("bo", [B, A])])], [3, 3])

    def test_errors(self):
        five = [("ann", str(k)) for k in range(5)]
        for value in [[("ann", [A, A])], [], *any_values()]:
            if value not in ANY_WHOLE:
                self.raises(InvalidFounds, {"given": value}, least_slow, value)
        self.raises(NotWhole, {"reader": 1}, least_slow, [(None, five), (None, five[:4])])
        self.raises(NotWhole, {"reader": 0}, least_slow, [(None, []), (None, [A])])
        self.raises(TooMany, {"count": 5}, least_slow, [(None, five), (None, five[::-1])])
        forty = [("ann", str(k)) for k in range(40)]
        self.raises(TooMany, {"count": 40}, least_slow, [(None, forty)] * 12)


def shuffled_two(dice):
    """Two founds of the same three lines in any orders."""
    lines = [(dice.choice("abcd"), str(k)) for k in range(3)]
    owns = dice.sample([None, None, "a", "b", "q"], 2)
    return [(own, dice.sample(lines, dice.randrange(2, 4))) for own in owns]


class TestTwoSlow(Case):
    def test_against_two_roads(self):
        dice = seeded(244)
        seen = {}
        many = 0
        while many < 1500:
            founds = [random_two(dice, 3), swapped_two(dice), shuffled_two(dice)][many % 3]
            if len({line for own, lines in founds for line in lines}) < 4:
                many += 1
                before = frozen(founds)
                expected = two_roads(founds) if two_fit(founds) else None
                told = two_slow(founds)
                self.assertEqual(told, expected, founds)
                seen[told] = seen.get(told, 0) + 1
                self.assertEqual(frozen(founds), before)
        self.assertGreater(min(seen.get(told, 0) for told in (None, 1, 2)), 20, seen)

    def test_all_founds_of_three_lines(self):
        """All founds of up to three lines of three names, but for those that differ in the names alone."""
        dice = seeded(245)
        count = 0
        for names in [("a", "b", "c"), ("a", "a", "b"), ("a", "a", "a")]:
            lines = [(name, str(k)) for k, name in enumerate(names)]
            rows = [row for many in range(4) for row in permutations(lines, many)]
            for first, second in product(rows, repeat=2):
                owns = [(None, None), ("a", None), (None, "a"), ("a", "b"), ("b", "a"), ("c", "a"), ("q", "b")]
                for own, other in dice.sample(owns, 2):
                    founds = [(own, list(first)), (other, list(second))]
                    count += 1
                    self.assertEqual(two_slow(founds), two_roads(founds) if two_fit(founds) else None, founds)
        self.assertGreater(count, 1000)

    def test_against_another_trial(self):
        dice = seeded(246)
        for _ in range(150):
            founds = random_two(dice, 3)
            self.assertEqual(two_slow(founds), slow_roads(founds, 3), founds)

    def test_edges(self):
        cases = [([(None, []), (None, [])], 1), ([("ann", []), ("bo", [])], 1), ([("ann", [X]), ("bo", [X])], 1), ([("ann", [Y]), ("bo", [X])], None),
                 ([(None, [X, Y]), (None, [Y, X])], 1), ([(None, [X, M, Y]), (None, [Y, M, X])], 2), ([("dan", [X, M, Y]), ("eve", [Y, M, X])], 2),
                 ([("ann", [X, M, Y]), ("bo", [Y, M, X])], 2), ([("cy", [X, M]), (None, [M, X])], None), ([(None, [M, ("cy", "n")]), (None, [("cy", "n"), M])], None)]
        for founds, expected in cases:
            self.assertEqual(two_slow(founds), expected, founds)
            self.assertEqual(two_slow(founds=tuple((own, tuple(lines)) for own, lines in founds)), expected)

    def test_errors(self):
        for value in [[("ann", [A, A])], [], *any_values()]:
            if value not in ANY_WHOLE:
                self.raises(InvalidFounds, {"given": value}, two_slow, value)
        four = [A, B, C, D]
        for many in [1, 3, 12]:
            self.raises(NotTwo, {"many": many}, two_slow, [(None, four)] * many)
        self.raises(TooMany, {"count": 4}, two_slow, [(None, four), (None, [])])
        self.raises(TooMany, {"count": 4}, two_slow, [(None, four[:2]), (None, four[2:])])
        self.raises(TooMany, {"count": 4}, two_slow, [(None, four[:3]), (None, four[1:])])
        self.raises(TooMany, {"count": 40}, two_slow, [("ann", [("ann", str(k)) for k in range(40)]), ("bo", [])])
        self.assertEqual(two_slow([(None, four[:3]), (None, four[:3])]), 1)


class TestSmallNetworks(Case):
    def test_tables_are_whole_founds(self):
        """Of all lists of logs that small networks leave, none needs more houses than there are."""
        for tree, writers in [(path(3), [0, 2]), (path(4), [0, 3]), (Tree(4, [(0, 1), (0, 2), (0, 3)]), [1, 2, 3]), (path(3), [0, 1, 1])]:
            for logs in tables(tree, writers):
                for seats in combinations(range(len(tree)), 2):
                    founds = [(LETTERS[seat], list(logs[seat])) for seat in seats]
                    self.assertIs(fits(founds), True)
                    self.assertLessEqual(least_slow(founds), len(tree))
                    self.assertLessEqual(two_slow(founds), 3)

    def test_deeds_next(self):
        network = Network(path(2), ["a", "b"])
        self.assertEqual(deeds_next(network, [0, 0, 1]), [("make", 0, "0"), ("make", 1, "0")])
        network.make(0, "0")
        self.assertEqual(deeds_next(network, [0, 0, 1]), [("make", 0, "1"), ("make", 1, "0"), ("hand", 0, 1)])
