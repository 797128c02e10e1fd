"""Points 51 to 53: founds."""

from maplost.errors import InvalidCount, InvalidCounts, InvalidFounds, InvalidHouse, InvalidLater
from maplost.founds import common, cut_back, found, goes_on, is_founds, is_whole
from maplost.networks import run_network
from tests.helpers import Case, any_values, frozen, lists_in, path

X, Y, Z = ("ann", "x"), ("bo", "y"), ("cy", "z")
TWELVE = [(name, []) for name in "abcdefghijkl"]
ANY_FOUNDS = [[("ann", [])], [(None, [])], ((None, ()),), [(None, [("ann", "x")])]]


class TestIsFounds(Case):
    def test_founds(self):
        right = [[("ann", [])], [(None, [])], [(None, ())], ((None, ()),), [("ann", [X, Y, Z])], [(None, [X]), (None, [X])],
                 TWELVE, tuple(TWELVE), [(None, [])] * 12, [("ann", [Y]), ("bo", (X,)), (None, [])],
                 [("ann", [("ann", str(k)) for k in range(40)])], [("abcdefgh", [("a", "")])]]
        for founds in right:
            self.assertIs(is_founds(founds), True)

    def test_no_founds(self):
        wrong = [[], (), [*TWELVE, (None, [])], [*TWELVE, ("m", [])], [["ann", []]], [("ann",)], [("ann", [], [])], ["ann"],
                 [("Ann", [])], [("", [])], [("abcdefghi", [])], [(0, [])], [(False, [])], [(True, [X])], [("ann", None)],
                 [("ann", "x")], [("ann", {"ann": "x"})], [("ann", [["ann", "x"]])], [("ann", [X, X])], [("ann", [X, Y, X])],
                 [("ann", []), ("ann", [])], [("ann", []), (None, []), ("ann", [X])], [("ann", X)], [("ann", [X, None])],
                 ("ann", []), {"ann": []}, [("ann", [("ann", "x" * 41)])], [("ann", [("", "x")])], [(["ann"], [])],
                 [("ann", []), None]]
        for founds in wrong:
            self.assertIs(is_founds(founds), False, founds)

    def test_any_value(self):
        self.is_bool_for_all(is_founds, lambda value: value in ANY_FOUNDS)
        self.assertIs(is_founds(value=TWELVE), True)


class TestFound(Case):
    def setUp(self):
        deeds = [("make", 0, "x"), ("make", 1, "y"), ("hand", 0, 1), ("make", 0, "z")]
        self.network = run_network(path(2), ["ann", "bo"], deeds)

    def test_beginnings(self):
        for many in range(3):
            log = [("bo", "y"), ("ann", "x")]
            self.assertEqual(found(self.network, 1, many), ("bo", log[:many]))
        self.assertEqual(found(many=1, house=0, network=self.network), ("ann", [("ann", "x")]))
        self.assertIs(type(found(self.network, 0, 0)[1]), list)
        found(self.network, 0, 2)[1].append(1)
        self.assertEqual(found(self.network, 0, 2)[1], [("ann", "x"), ("ann", "z")])

    def test_errors(self):
        for value in any_values():
            if type(value) is not int or value not in (0, 1):
                self.raises(InvalidHouse, {"given": value}, found, self.network, value, value)
            if type(value) is not int or value not in (0, 1, 2):
                self.raises(InvalidCount, {"given": value}, found, self.network, 0, value)
        self.raises(InvalidCount, {"given": 3}, found, self.network, 1, 3)
        self.raises(InvalidCount, {"given": -1}, found, self.network, 1, -1)


class TestCommon(Case):
    def test_common(self):
        self.assertEqual(common([("ann", [Z, X, Y])]), [X, Y, Z])
        self.assertEqual(common([("ann", [Z, X, Y]), (None, (Y, Z))]), [Y, Z])
        self.assertEqual(common([("ann", [Z, X, Y]), (None, [])]), [])
        self.assertEqual(common([(None, [X, Y]), (None, [Y, Z]), (None, [Z, X, Y])]), [Y])
        self.assertEqual(common([(None, [("b", " "), ("b", ""), ("a", "~"), ("a", "A")])] * 3),
                         [("a", "A"), ("a", "~"), ("b", ""), ("b", " ")])
        self.assertEqual(common(founds=TWELVE), [])
        founds = [("ann", [X])]
        common(founds).append(1)
        self.assertEqual([common(founds), founds], [[X], [("ann", [X])]])

    def test_whole(self):
        for founds in [[(None, [X])], [(None, [])] * 3, [(None, [X, Y]), (None, (Y, X))], TWELVE]:
            self.assertIs(is_whole(founds), True)
        for founds in [[(None, [X]), (None, [])], [(None, []), (None, [X])], [(None, [X]), (None, [Y])],
                       [(None, [X]), (None, [X, Y])]]:
            self.assertIs(is_whole(founds=founds), False)

    def test_forty_lines(self):
        lines = [("ann", str(k)) for k in range(40)]
        founds = [(None, lines[k:] + lines[:k]) for k in range(12)]
        self.assertEqual([common(founds), is_whole(founds)], [sorted(lines), True])


class TestCutBack(Case):
    def test_cut_back(self):
        founds = [("ann", [X, Y]), (None, (Z,)), ("bo", [])]
        before = frozen(founds)
        self.assertEqual(cut_back(founds, [1, 1, 0]), [("ann", [X]), (None, [Z]), ("bo", [])])
        self.assertEqual(cut_back(counts=(0, 0, 0), founds=founds), [("ann", []), (None, []), ("bo", [])])
        self.assertEqual(cut_back(founds, [2, 1, 0]), [("ann", [X, Y]), (None, [Z]), ("bo", [])])
        self.assertEqual(frozen(founds), before)

    def test_new_lists(self):
        lines = [X, Y]
        founds = [("ann", lines), (None, lines)]
        told = cut_back(founds, [2, 2])
        self.assertEqual(len({id(row) for row in lists_in(told) + lists_in(founds)}), 5)
        told[0][1].append(Z)
        self.assertEqual(cut_back(founds, [2, 2]), [("ann", [X, Y]), (None, [X, Y])])

    def test_invalid_counts(self):
        founds = [("ann", [X, Y]), (None, [Z])]
        wrong = [[], [1], [1, 1, 1], [3, 1], [2, 2], [-1, 0], [True, 1], [1, False], [None, 0], ["1", 1], [[1], 1], "11",
                 {"a": 1, "b": 1}, [1, 10 ** 19]]
        for counts in wrong:
            self.raises(InvalidCounts, {"given": counts}, cut_back, founds, counts)
        for value in any_values():
            if value != (0, 1):
                self.raises(InvalidCounts, {"given": value}, cut_back, founds, value)


class TestGoesOn(Case):
    def test_goes_on(self):
        right = [([("ann", [X])], [("ann", [X])]), ([("ann", [X])], [("ann", [X, Y])]), ([("ann", [])], [("ann", (X, Y))]),
                 ([("ann", (X,))], [("ann", [X, Y])]), ([(None, [X])], [("bo", [X])]), ([(None, [X])], [(None, [X, Z])]),
                 ([("ann", [X]), (None, [])], [("ann", [X]), ("bo", [Z])])]
        for founds, later in right:
            self.assertIs(goes_on(founds, later), True)
        wrong = [([("ann", [X])], [("ann", [])]), ([("ann", [X])], [("ann", [Y, X])]), ([("ann", [X])], [("bo", [X])]),
                 ([("ann", [X])], [(None, [X])]), ([("ann", [X])], [("ann", [X]), (None, [])]),
                 ([("ann", [X]), (None, [])], [("ann", [X])]), ([("ann", [X, Y])], [("ann", [X, Z, Y])]),
                 ([("ann", []), ("bo", [])], [("bo", []), ("ann", [])]), ([(None, [X]), (None, [Y])], [(None, [X]), (None, [])])]
        for founds, later in wrong:
            self.assertIs(goes_on(later=later, founds=founds), False)

    def test_invalid_later(self):
        for value in any_values():
            if value not in ANY_FOUNDS:
                self.raises(InvalidLater, {"given": value}, goes_on, [("ann", [])], value)
                self.raises(InvalidFounds, {"given": value}, goes_on, value, value)


class TestInvalidFounds(Case):
    def test_all_functions(self):
        wrong = [[], [*TWELVE, (None, [])], [("ann", [X, X])], [["ann", []]], [("ann", []), ("ann", [])]]
        values = [value for value in any_values() if value not in ANY_FOUNDS]
        for value in wrong + values:
            self.raises(InvalidFounds, {"given": value}, common, value)
            self.raises(InvalidFounds, {"given": value}, is_whole, value)
            self.raises(InvalidFounds, {"given": value}, cut_back, value, None)
            self.raises(InvalidFounds, {"given": value}, goes_on, value, None)
