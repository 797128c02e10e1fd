"""Point 46: scripts behind rows."""

from maplost.errors import InvalidNames, InvalidRows, NotRight
from maplost.networks import Network, finish, is_script, run_network
from maplost.runs import script_behind
from maplost.trees import Tree, side
from tests.helpers import Case, any_values, frozen, house_names, lists_in, path, random_network, random_tree, seeded

X, Y, Z = ("ann", "x"), ("bo", "y"), ("cy", "z")
NAMES = ["ann", "bo", "cy"]


def wrongs_at(tree, names, rows, u, v):
    """All that shows that rows are not right from u to v, as point 46 tells it."""
    near = [names[house] for house in side(tree, u, v)]
    wrongs = [(a,) for a in rows[v] if a[0] in near and a not in rows[u]]
    for k, a in enumerate(rows[u]):
        for b in rows[u][k + 1:]:
            if a in rows[v] and b in rows[v] and rows[v].index(b) < rows[v].index(a):
                if a[0] not in near or b[0] in near:
                    wrongs.append((a, b))
    return wrongs


class TestScriptBehind(Case):
    def logs_are(self, tree, names, rows):
        script = script_behind(tree, names, rows)
        self.assertIs(type(script), list)
        self.assertTrue(is_script(tree, script))
        network = run_network(tree, names, script)
        self.assertEqual([network.log(house) for house in range(len(tree))], [tuple(row) for row in rows])

    def test_small(self):
        self.logs_are(Tree(1, []), ["ann"], [[]])
        self.logs_are(Tree(1, []), ["ann"], [[X, ("ann", "y")]])
        self.logs_are(path(3), NAMES, [[], [], []])
        self.logs_are(path(3), NAMES, [[X], [X], [X]])
        self.logs_are(path(3), NAMES, [[X, ("ann", "2")], [("ann", "2")], [Z, ("ann", "2")]])
        self.logs_are(path(3), tuple(NAMES), ((X,), (Y, X, Z), [Z, X]))

    def test_by_name(self):
        script = script_behind(rows=[[X], [X]], names=["ann", "bo"], tree=path(2))
        self.assertEqual(script, [("make", 0, "x"), ("hand", 0, 1)])

    def test_logs_of_runs(self):
        dice = seeded(11)
        for _ in range(150):
            network = random_network(dice, dice.randrange(1, 9), 10, dice.choice([0, 0.1, 0.3]))
            rows = [network.log(house) for house in range(len(network.tree))]
            self.logs_are(network.tree, network.names, rows)

    def test_right_or_not(self):
        """Rows at random: a script, or an error with what shows that they are not right."""
        dice = seeded(12)
        told = {True: 0, False: 0}
        for _ in range(1500):
            houses = dice.randrange(1, 5)
            tree, names = random_tree(dice, houses), house_names(houses)
            pool = [(dice.choice(names), str(k)) for k in range(dice.randrange(5))]
            rows = []
            for house in range(houses):
                row = [line for line in pool if dice.random() < 0.8 or line[0] == names[house]]
                if dice.random() < 0.4 and len(row) > 1:
                    k = dice.randrange(len(row) - 1)
                    row[k], row[k + 1] = row[k + 1], row[k]
                rows.append(row)
            roads = [road for u, v in tree.roads for road in [(u, v), (v, u)]]
            wrongs = {road: wrongs_at(tree, names, rows, *road) for road in roads}
            right = not any(wrongs.values())
            told[right] += 1
            if right:
                self.logs_are(tree, names, rows)
            else:
                with self.assertRaises(NotRight) as caught:
                    script_behind(tree, names, rows)
                self.assertIn(caught.exception.lines, wrongs[caught.exception.road])
        self.assertGreater(min(told.values()), 200)

    def test_each_way_not_to_be_right(self):
        tree, w = path(3), ("ann", "w")
        self.raises(NotRight, {"road": (0, 1), "lines": (X,)}, script_behind, tree, NAMES, [[], [X], []])
        self.raises(NotRight, {"road": (2, 1), "lines": (Z,)}, script_behind, tree, NAMES, [[], [Z], []])
        self.raises(NotRight, {"road": (1, 0), "lines": (Z,)}, script_behind, tree, NAMES, [[Z], [], [Z]])
        # Both are of one side, so that they cannot change places.
        with self.assertRaises(NotRight) as caught:
            script_behind(tree, NAMES, [[X, w], [w, X], []])
        self.assertIn((caught.exception.road, caught.exception.lines), [((0, 1), (X, w)), ((1, 0), (w, X))])
        # They are of two sides, but change places the wrong way.
        with self.assertRaises(NotRight) as caught:
            script_behind(tree, NAMES, [[Y, X], [X, Y], []])
        self.assertIn((caught.exception.road, caught.exception.lines), [((0, 1), (Y, X)), ((1, 0), (X, Y))])
        self.logs_are(tree, NAMES, [[X, Y], [Y, X], []])

    def test_largest(self):
        for tree in [path(64), Tree(64, [(0, k) for k in range(1, 64)])]:
            network = Network(tree, house_names(64))
            for k in range(40):
                network.make(63 - k, "x")
            finish(network)
            self.logs_are(tree, network.names, [network.log(house) for house in range(64)])

    def test_invalid_names(self):
        for value in any_values():
            self.raises(InvalidNames, {"given": value}, script_behind, path(3), value, value)
        short = ["ann", "bo"]
        self.raises(InvalidNames, {"given": short}, script_behind, path(3), short, [[], [], []])

    def test_invalid_rows(self):
        wrong = [[], [[], []], [[], [], [], []], [[], [], [Z, Z]], [[], [], [("dee", "x")]], [[], [], ["cy x"]],
                 [[], [], [["cy", "z"]]], [[], [], [("cy", "z", "z")]], [[], [], None], [[], [], "cy"], [[], [], {}],
                 [[], [], [("cy", "x" * 41)]], [[], [], [("Cy", "x")]], {"a": [], "b": [], "c": []}, [X, Y, Z]]
        for rows in wrong:
            self.raises(InvalidRows, {"given": rows}, script_behind, path(3), NAMES, rows)
        # It is rows first, and right afterwards.
        rows = [[], [X], [Z, Z]]
        self.raises(InvalidRows, {"given": rows}, script_behind, path(3), NAMES, rows)
        for value in any_values():
            self.raises(InvalidRows, {"given": value}, script_behind, path(3), NAMES, value)

    def test_new_and_equal(self):
        rows = [[X], [Y, X, Z], [Z, X]]
        before = frozen(rows)
        first, second = script_behind(path(3), NAMES, rows), script_behind(path(3), tuple(NAMES), frozen(rows))
        self.assertEqual(first, second)
        self.assertIsNot(first, second)
        self.assertEqual(len(lists_in(first)), 1)
        first.append(1)
        self.assertEqual(script_behind(path(3), NAMES, rows), second)
        self.assertEqual(frozen(rows), before)
