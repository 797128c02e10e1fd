"""Points 71 to 73: a network behind two logs."""

from maplost.errors import InvalidFounds, Nobodys, NotTwo
from maplost.networks import Network, is_script, run_network
from maplost.trees import Tree, way
from maplost.two import two_fit, two_roads
from maplost.twonets import is_two_network, two_network
from tests.helpers import Case, any_values, frozen, house_names, lists_in, path, random_found, random_network, seeded
from tests.test_two import NOBODYS, random_two, swapped_two

C, U, W, Y = ("cy", "m"), ("ann", "x"), ("ann", "w"), ("bo", "y")
FOUNDS = [(None, [U, C]), (None, [W, C])]


class TestTwoNetwork(Case):
    def check(self, founds):
        """The network is as point 73 tells it, by a run of it."""
        before = frozen(founds)
        told = two_network(founds)
        self.assertIs(type(told), tuple)
        tree, names, seats, script = told
        self.assertEqual([type(item) for item in told], [Tree, list, tuple, list])
        self.assertIs(is_script(tree, script), True)
        network = run_network(tree, names, script)
        self.assertEqual(len(way(tree, *seats)), two_roads(founds) + 1)
        borne = [line[0] for own, lines in founds for line in lines]
        for (own, lines), seat in zip(founds, seats):
            self.assertEqual(network.log(seat)[:len(lines)], tuple(lines))
            if own is None:
                self.assertNotIn(names[seat], borne)
            else:
                self.assertEqual(names[seat], own)
        self.assertIs(is_two_network(founds, told), True)
        self.assertIs(is_two_network(before, (tree, tuple(names), seats, tuple(script))), True)
        self.assertIs(is_two_network(founds, (tree, names, seats[::-1], script)), self.turned_about(founds, told))
        self.assertEqual(frozen(founds), before)

    def turned_about(self, founds, told):
        """Whether the logs would be those of the seats the other way round, too."""
        tree, names, seats, script = told
        network = run_network(tree, names, script)
        borne = [line[0] for own, lines in founds for line in lines]
        good = True
        for (own, lines), seat in zip(founds, seats[::-1]):
            good = good and network.log(seat)[:len(lines)] == tuple(lines)
            good = good and (names[seat] == own if own is not None else names[seat] not in borne)
        return good

    def test_founds_at_random(self):
        dice = seeded(41)
        many = 0
        for k in range(1500):
            founds = random_two(dice, 4) if k % 2 else swapped_two(dice)
            if two_fit(founds):
                many += 1
                self.check(founds)
            else:
                with self.assertRaises(Nobodys):
                    two_network(founds)
                self.assertIs(is_two_network(founds, two_network(FOUNDS)), False)
        self.assertGreater(many, 500)

    def test_founds_of_networks(self):
        dice = seeded(42)
        for _ in range(200):
            network = random_network(dice, dice.randrange(2, 9), 14, dice.choice([0, 0.1, 0.3]))
            seats = tuple(dice.sample(range(len(network.tree)), 2))
            founds = [random_found(dice, network, house) for house in seats]
            self.check(founds)
            value = (network.tree, network.names, seats, network.script)
            self.assertIs(is_two_network(founds, value), two_roads(founds) == len(way(network.tree, *seats)) - 1)

    def test_longest_way(self):
        lines = [(name, "x") for name in house_names(40)]
        for founds in [[(None, lines), (None, lines[::-1])], [("a", lines), ("b", lines[::-1])], [(None, lines), (None, [])],
                       [(lines[0][0], lines), (lines[-1][0], lines[::-1])], [(None, lines[:20]), ("q", lines[20:])]]:
            self.check(founds)
            self.assertLessEqual(len(two_network(founds)[0]), 42)

    def test_owns(self):
        for own in [None, "ann", "zed"]:
            for other in [None, "bo", "abcdefgh"]:
                self.check([(own, []), (other, [])])
                self.check([(own, [U, C]), (other, [C])])
        self.check([(None, [("a", "1"), ("b", "1")]), (None, [("b", "1"), ("c", "1"), ("d", "1")])])

    def test_lines_behind_the_cut(self):
        # The line of the one end comes to the other end, but its log is cut off before.
        for founds in [[("ann", [C]), ("bo", [U])], [("ann", [Y]), ("bo", [])], [("ann", [C, Y]), ("bo", [C])],
                       [("ann", []), ("bo", [U, W])]]:
            self.check(founds)
        # Longer rows do not end in the end 1.
        c, d, e = ("cy", "1"), ("dee", "1"), ("eve", "1")
        for founds in [[("ann", [c, d, e, Y]), ("bo", [e, d, c])], [(None, [c, d, e, Y, ("bo", "2")]), ("bo", [e, d, c])],
                       [("ann", [c, d, e]), ("bo", [e, d, c, U])], [("ann", [c, d, e]), ("bo", [Y, e, d, c])]]:
            self.assertEqual(two_roads(founds), 2)
            self.check(founds)

    def test_errors(self):
        self.raises(Nobodys, {"picture": ((1,), (0,))}, two_network, NOBODYS)
        for many in [1, 3]:
            self.raises(NotTwo, {"many": many}, two_network, [(None, [])] * many)
            self.raises(NotTwo, {"many": many}, is_two_network, [(None, [])] * many, None)
        for value in [None, [], [("ann", []), ("ann", [])], [["ann", []], ("bo", [])], [(None, [U, U]), (None, [])]]:
            self.raises(InvalidFounds, {"given": value}, two_network, value)
            self.raises(InvalidFounds, {"given": value}, is_two_network, value, value)

    def test_new_and_equal(self):
        first, second = two_network(FOUNDS), two_network(founds=((None, (U, C)), (None, (W, C))))
        self.assertTrue(first == second)
        self.assertEqual(len({id(row) for row in lists_in(first) + lists_in(second)}), 4)
        first[1].clear()
        first[3].clear()
        self.assertTrue(two_network(FOUNDS) == second)


class TestIsTwoNetwork(Case):
    def setUp(self):
        self.tree = Tree(4, [(0, 1), (0, 3), (1, 2)])
        self.names = ["dan", "ann", "eve", "cy"]
        self.script = [("make", 1, "x"), ("hand", 1, 0), ("lose", 1, 2), ("make", 1, "w"), ("hand", 1, 2)]
        self.script.extend([("make", 3, "m"), ("hand", 3, 0), ("hand", 0, 1), ("hand", 1, 2)])

    def judge(self, tree=None, names=None, seats=(0, 2), script=None, founds=FOUNDS):
        value = (self.tree if tree is None else tree, self.names if names is None else names, seats,
                 self.script if script is None else script)
        told = is_two_network(founds, value)
        self.assertIs(type(told), bool)
        return told

    def test_right(self):
        self.assertTrue(self.judge())
        self.assertTrue(self.judge(names=tuple(self.names), script=tuple(self.script)))
        self.assertTrue(self.judge(script=[*self.script, ("stop", 0), ("stop", 2)]))
        self.assertTrue(self.judge(script=[*self.script, ("make", 0, "later")]))
        self.assertTrue(is_two_network(value=(self.tree, self.names, (0, 2), self.script), founds=FOUNDS))

    def test_wrong_parts(self):
        for seats in [(2, 0), (0, 1), (0, 3), (0, 0), (0,), (0, 2, 1), [0, 2], (0, 4), (False, 2), (0, True), (None, 2), "02", 0]:
            self.assertFalse(self.judge(seats=seats), seats)
        for names in [["dan", "ann", "eve"], ["dan", "ann", "eve", "eve"], ["cy", "ann", "eve", "dan"], "abcd", [],
                      ["dan", "ann", "eve", "Cy"], ["dan", "ann", "eve", None], {"a": 1, "b": 2, "c": 3, "d": 4}]:
            self.assertFalse(self.judge(names=names), names)
        for script in [[], self.script[:-1], self.script[1:], [*self.script, ("hand", 0, 1)], [*self.script, ("halt", 0)],
                       [*self.script, None], "make", [list(deed) for deed in self.script], [("stop", 0)] * 2701,
                       [("make", 0, "early"), *self.script], [*self.script, ("stop", 2), ("stop", 2)]]:
            self.assertFalse(self.judge(script=script))
        for tree in [Tree(3, [(0, 1), (1, 2)]), path(4), "4: 0-1 0-3 1-2", (4, [(0, 1), (0, 3), (1, 2)]), Network(self.tree, self.names)]:
            self.assertFalse(self.judge(tree=tree))

    def test_wrong_shapes(self):
        parts = (self.tree, self.names, (0, 2), self.script)
        for value in [list(parts), parts[:3], (*parts, None), (), (None, *parts[1:])]:
            self.assertIs(is_two_network(FOUNDS, value), False)
        self.is_bool_for_all(lambda value: is_two_network(FOUNDS, value), lambda value: False)
        for value in any_values():
            for k in range(4):
                wrong = (*parts[:k], value, *parts[k + 1:])
                self.assertIs(is_two_network(FOUNDS, wrong), False)

    def test_names_of_seats(self):
        self.assertFalse(self.judge(founds=[("ann", [U, C]), (None, [W, C])]))
        self.assertTrue(self.judge(founds=[("dan", [U, C]), (None, [W, C])]))
        self.assertTrue(self.judge(founds=[("dan", [U, C]), ("eve", [W, C])]))
        self.assertFalse(self.judge(founds=[("dan", [U, C]), ("fay", [W, C])]))
        # A seat whose reader has no own bears no name of a line.
        founds = [(None, [U]), (None, [U])]
        script = [("make", 0, "x"), ("hand", 0, 1)]
        self.assertFalse(self.judge(tree=path(2), names=["ann", "bo"], seats=(0, 1), script=script, founds=founds))
        script = [("make", 2, "x"), ("hand", 2, 1), ("hand", 1, 0)]
        self.assertTrue(self.judge(tree=path(3), names=["cy", "bo", "ann"], seats=(0, 1), script=script, founds=founds))

    def test_number_of_roads(self):
        founds = [(None, [U]), (None, [U])]
        script = [("make", 1, "x"), ("hand", 1, 0), ("hand", 1, 2)]
        self.assertEqual(two_roads(founds), 1)
        self.assertFalse(self.judge(tree=path(3), names=["cy", "ann", "bo"], seats=(0, 2), script=script, founds=founds))

    def test_false_if_no_choice_holds(self):
        tree, names, script = path(2), ["ann", "bo"], [("make", 0, "x"), ("hand", 0, 1)]
        for seats in [(0, 1), (1, 0)]:
            self.assertFalse(self.judge(tree=tree, names=names, seats=seats, script=script, founds=NOBODYS))
