"""Points 61 to 63: arrows, rows, rings and their papers."""

from maplost.arrows import arrows, is_why_row, ring, roads_between, row, turned, why_row
from maplost.errors import InvalidFounds, InvalidIndex, NoRow, Ringed
from maplost.trees import way
from tests.helpers import Case, any_values, frozen, house_names, lists_in, random_found, random_network, seeded

X, M, Y = ("ann", "x"), ("cy", "m"), ("bo", "y")
FOUNDS = [("ann", [X, M, Y]), ("bo", [Y, M, X])]
RINGED = [(None, [M, ("cy", "n")]), ("bo", [("cy", "n"), M])]
BIG_RING = [(None, [("a", "1"), ("b", "1"), ("b", "2"), ("c", "1"), ("c", "2"), ("a", "2")]),
            (None, [("b", "1"), ("a", "1"), ("c", "1"), ("b", "2"), ("a", "2"), ("c", "2")])]
CALLS = [turned, arrows, ring, row, roads_between]
PAPER_CALLS = [lambda *given: why_row(*given, None), lambda *given: is_why_row(*given, None, None)]


def slow_turned(founds, i, j):
    first, second = list(founds[i][1]), list(founds[j][1])
    both = [line for line in first if line in second]
    return sorted((a, b) for a in both for b in both
                  if first.index(a) < first.index(b) and second.index(b) < second.index(a))


def slow_longest(pairs, limit):
    """The names in a longest row, or None if rows go on for more names than the limit."""
    ends, many = {name for pair in pairs for name in pair}, 0
    while ends:
        many += 1
        if many > limit:
            return None
        ends = {b for a, b in pairs if a in ends}
    return many


def random_founds(dice):
    """Two founds at random, which need not be those of a network."""
    names = "abcdefgh"[:dice.randrange(1, 9)]
    lines = [(dice.choice(names), str(k)) for k in range(dice.randrange(9))]
    if dice.random() < 0.5:
        lines = [(name, "x") for name in names]
    rows = []
    for _ in range(2):
        logged = [line for line in lines if dice.random() < 0.8]
        for _ in range(dice.randrange(12)):
            if len(logged) > 1:
                k = dice.randrange(len(logged) - 1)
                logged[k], logged[k + 1] = logged[k + 1], logged[k]
        rows.append(logged)
    return [(None, rows[0]), (None, []), (None, rows[1])]


class TestArrows(Case):
    def test_edges(self):
        for founds in [[(None, []), (None, [])], [(None, [X, Y]), (None, [X, Y])], [(None, [X]), (None, [Y])],
                       [("ann", [X, Y, M]), (None, [M])]]:
            self.assertEqual([turned(founds, 0, 1), arrows(founds, 0, 1), ring(founds, 0, 1)], [[], [], None])
            self.assertEqual([row(founds, 0, 1), roads_between(founds, 0, 1)], [(), 1])

    def test_three_readers(self):
        founds = [*FOUNDS, (None, (M, X))]
        self.assertEqual(turned(founds, 0, 2), [(X, M)])
        self.assertEqual(turned(founds, 2, 0), [(M, X)])
        self.assertEqual(turned(j=2, founds=founds, i=1), [])
        self.assertEqual(arrows(j=2, founds=founds, i=0), [("ann", "cy")])

    def test_each_arrow_once(self):
        founds = [(None, [X, ("ann", "z"), Y]), (None, [Y, X, ("ann", "z")])]
        self.assertEqual(turned(founds, 0, 1), [(X, Y), (("ann", "z"), Y)])
        self.assertEqual(arrows(founds, 0, 1), [("ann", "bo")])

    def test_as_the_words_say(self):
        dice = seeded(21)
        kinds = {"ring": 0, "row": 0}
        for _ in range(2500):
            founds = random_founds(dice)
            i, j = dice.choice([(0, 2), (2, 0), (0, 1), (1, 2)])
            expected = slow_turned(founds, i, j)
            pairs = sorted({(a[0], b[0]) for a, b in expected})
            self.assertEqual(turned(founds, i, j), expected)
            self.assertEqual(arrows(founds, i, j), pairs)
            many = slow_longest(pairs, 10)
            names = ring(founds, i, j)
            if many is None:
                kinds["ring"] += 1
                self.assertIs(type(names), tuple)
                self.assertEqual(len(set(names)), len(names))
                for pair in zip(names, [*names[1:], names[0]]):
                    self.assertIn(pair, pairs)
                for call in [row, roads_between]:
                    with self.assertRaises(Ringed) as caught:
                        call(founds, i, j)
                    self.assertEqual(caught.exception.names, names)
            else:
                kinds["row"] += many > 2
                self.assertIs(names, None)
                told = row(founds, i, j)
                self.assertIs(type(told), tuple)
                self.assertEqual(len(told), many)
                for pair in zip(told, told[1:]):
                    self.assertIn(pair, pairs)
                self.assertEqual(roads_between(founds, i, j), max(many - 1, 1))
        self.assertGreater(min(kinds.values()), 50)

    def test_long_row(self):
        lines = [(name, "x") for name in house_names(40)]
        founds = [(None, lines), (None, lines[::-1])]
        self.assertEqual(row(founds, 0, 1), tuple(house_names(40)))
        self.assertEqual(row(founds, 1, 0), tuple(house_names(40)[::-1]))
        self.assertEqual([roads_between(founds, 0, 1), len(arrows(founds, 0, 1)), len(turned(founds, 0, 1))], [39, 780, 780])

    def test_rings(self):
        self.assertEqual(ring(RINGED, 0, 1), ("cy",))
        self.assertEqual(set(ring(BIG_RING, 0, 1)), {"a", "b", "c"})
        self.raises(Ringed, {"names": ("cy",)}, roads_between, RINGED, 0, 1)

    def test_founds_of_networks(self):
        dice = seeded(22)
        for _ in range(150):
            network = random_network(dice, dice.randrange(2, 9), 12, dice.choice([0, 0.1]))
            seats = dice.sample(range(len(network.tree)), 2)
            founds = [random_found(dice, network, house) for house in seats]
            self.assertIs(ring(founds, 0, 1), None)
            self.assertLess(roads_between(founds, 0, 1), len(way(network.tree, *seats)))


class TestErrors(Case):
    def test_founds_first(self):
        for value in [[], [("ann", [X, X])], [["ann", []], ["bo", []]], None, "", {}, [(None, [])] * 13]:
            for call in CALLS + PAPER_CALLS:
                self.raises(InvalidFounds, {"given": value}, call, value, None, None)

    def test_indices(self):
        for call in CALLS + PAPER_CALLS:
            for value in any_values():
                if type(value) is not int or value not in (0, 1):
                    self.raises(InvalidIndex, {"given": value}, call, FOUNDS, value, [])
                if type(value) is not int or value != 0:
                    self.raises(InvalidIndex, {"given": value}, call, FOUNDS, 1, value)
            self.raises(InvalidIndex, {"given": 2}, call, FOUNDS, 2, 0)
            self.raises(InvalidIndex, {"given": 2}, call, FOUNDS, 0, 2)
            self.raises(InvalidIndex, {"given": 0}, call, FOUNDS, 0, 0)
            self.raises(InvalidIndex, {"given": 0}, call, [(None, [X])], 0, 0)
            self.raises(InvalidIndex, {"given": -1}, call, FOUNDS, -1, 0)

    def test_no_row(self):
        wrong = [(), ("ann",), ("bo",), ("bo", "ann"), ("ann", "ann"), ("ann", "bo", "cy"), ["ann", "bo"], ("ann", "dee"),
                 ("ann", None), ("ann", ["bo"]), (("ann", "bo"),), "ann", {"ann": 1, "bo": 1}, ("ann", "cy", "bo", "ann")]
        values = [value for value in any_values() if value != ("ann", "x")]
        for names in wrong + values:
            self.raises(NoRow, {"names": names}, why_row, FOUNDS, 0, 1, names)
            self.raises(NoRow, {"names": names}, is_why_row, FOUNDS, 0, 1, names, None)


class TestPapers(Case):
    def test_why_row(self):
        for names in [("ann", "bo"), ("ann", "cy"), ("cy", "bo"), ("ann", "cy", "bo")]:
            told = why_row(FOUNDS, 0, 1, names)
            self.assertIs(type(told), list)
            self.assertTrue(is_why_row(FOUNDS, 0, 1, names, told))
            self.assertTrue(is_why_row(FOUNDS, 0, 1, names, tuple(told)))
            self.assertIsNot(told, why_row(names=names, j=1, i=0, founds=FOUNDS))
            self.assertEqual(told, why_row(names=names, j=1, i=0, founds=frozen(FOUNDS)))

    def test_names_in_a_ring(self):
        pair = (M, ("cy", "n"))
        self.assertEqual(why_row(RINGED, 0, 1, ("cy",) * 4), [pair] * 3)
        self.assertEqual(len(why_row(RINGED, 0, 1, ("cy",) * 3000)), 2999)
        self.assertIs(is_why_row(RINGED, 0, 1, ("cy",) * 3000, [pair] * 2999), True)
        self.assertIs(is_why_row(RINGED, 0, 1, ("cy",) * 3000, [pair] * 2998), False)
        self.assertIs(is_why_row(BIG_RING, 0, 1, ("a", "b", "c", "a", "b"), why_row(BIG_RING, 0, 1, ("a", "b", "c", "a", "b"))), True)

    def test_any_right_pair(self):
        z = ("ann", "z")
        founds = [(None, [X, z, Y]), (None, [Y, X, z])]
        for pair in [(X, Y), (z, Y)]:
            self.assertIs(is_why_row(founds, 0, 1, ("ann", "bo"), [pair]), True)

    def test_no_paper(self):
        names = ("ann", "cy", "bo")
        right = [(X, M), (M, Y)]
        self.assertIs(is_why_row(value=right, names=names, founds=FOUNDS, i=0, j=1), True)
        wrong = [[], [(X, M)], [(X, M), (M, Y), (X, Y)], [(X, M), (X, Y)], [(X, Y), (M, Y)], [(M, X), (M, Y)], [[X, M], (M, Y)],
                 [(X, M, M), (M, Y)], [(list(X), M), (M, Y)], [(X, ("cy", "n")), (M, Y)], [(X, list(M)), (M, Y)],
                 [({"ann": "x"}, M), (M, Y)], [(X, M), None], [(X, M), (M,)],
                 "xm", {"a": (X, M), "b": (M, Y)}, [(M, Y), (X, M)]]
        for value in wrong:
            self.assertIs(is_why_row(FOUNDS, 0, 1, names, value), False)
        self.is_bool_for_all(lambda value: is_why_row(FOUNDS, 0, 1, names, value), lambda value: False)

    def test_new_lists(self):
        before = frozen(FOUNDS)
        for call in [turned, arrows, lambda *given: why_row(*given, ("ann", "bo"))]:
            told = call(FOUNDS, 0, 1)
            kept = list(told)
            self.assertEqual(len(lists_in(told)), 1)
            told.clear()
            self.assertEqual(call(FOUNDS, 0, 1), kept)
        self.assertEqual(frozen(FOUNDS), before)

    def test_equal_answers(self):
        for founds in [FOUNDS, BIG_RING]:
            other = tuple((own, tuple(lines)) for own, lines in founds)
            self.assertEqual(ring(founds, 0, 1), ring(other, 0, 1))
        self.assertEqual(row(FOUNDS, 0, 1), row(frozen(FOUNDS), 0, 1))
