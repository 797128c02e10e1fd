"""Point 111: pictures of whole founds."""

from itertools import permutations, product

from maplost.errors import InvalidFounds, NotWhole
from maplost.fewest import fewest
from maplost.pictures import fits, is_picture, picture
from tests.helpers import Case, any_values, ended_network, frozen, house_names, seeded, whole_founds
from tests.slow_whole import fewest_slow
from tests.test_cuts import FOUR, do_cross, slow_cuts, slow_longest

X, Y, M, N = ("ann", "x"), ("bo", "y"), ("cy", "m"), ("cy", "n")
HOME = [(None, [M, X, Y]), (None, [Y, X, M]), (None, [Y, M, X])]
TWO_LINES = [(None, [Y, X, M, ("ann", "z")]), (None, [X, Y, M, ("ann", "z")]), (None, [Y, X, ("ann", "z"), M])]
THREE = [(None, [X, Y, M]), (None, [Y, M, X]), (None, [M, X, Y])]
AWAY = [("ann", [Y, X]), (None, [X, Y])]
RINGED = [(None, [M, N]), (None, [N, M])]
CROSS = ("cross", *[line for own, lines in FOUR[:1] for line in lines], (0, 1, 2, 3))
ANY_WHOLE = ([("ann", [])], [(None, [])], ((None, ()),), [(None, [("ann", "x")])])


def ring_of(names):
    """Whole founds of two readers by which names are in a ring, and no fewer of them."""
    first, second = [], []
    for a, b in zip(names, [*names[1:], names[0]]):
        first.extend([(a, "1"), (b, "2")])
        second.extend([(b, "2"), (a, "1")])
    return [(None, first), (None, second)]


def sides(founds):
    """For each two lines that part the readers the set of those in whose logs the first one is ahead."""
    lines = founds[0][1]
    told = {}
    for a, b in permutations(lines, 2):
        lot = {k for k, (own, row) in enumerate(founds) if row.index(a) < row.index(b)}
        if 0 < len(lot) < len(founds):
            told[(a, b)] = lot
    return told


def ahead(founds, reader, *lines):
    row = founds[reader][1]
    return all(row.index(a) < row.index(b) for a, b in zip(lines, lines[1:]))


def all_pictures(founds):
    """All pictures of small whole founds, as the words of point 111 tell them, but those of crossing cuts."""
    lines, readers, parted = founds[0][1], range(len(founds)), sides(founds)
    told = []
    for a, b, c in permutations(lines, 3):
        for i, j, k in product(readers, repeat=3):
            if ahead(founds, i, a, b, c) and ahead(founds, j, b, c, a) and ahead(founds, k, c, a, b):
                told.append(("three", (a, b, c), (i, j, k)))
    for (a, y), (c, z) in product(parted, repeat=2):
        for k in readers:
            if a[0] == c[0] and not parted[(a, y)] & parted[(c, z)] and k not in parted[(a, y)] | parted[(c, z)]:
                told.append(("homeless", a, y, c, z, k))
    for k, (own, row) in enumerate(founds):
        told.extend(("away", k, a, y) for a, y in parted if a[0] == own and k not in parted[(a, y)])
    for lot, arrows in slow_cuts(founds).items():
        for many in range(1, 5):
            for names in permutations(sorted({line[0] for line in lines}), many):
                if all(pair in arrows for pair in zip(names, (*names[1:], names[0]))):
                    told.append(("ringed", lot, names))
    return told


def crosses(founds):
    lots = slow_cuts(founds)
    return any(do_cross(lot, other) for lot in lots for other in lots)


def random_whole(dice, many):
    """Whole founds of up to so many lines at random, which need not be those of a network."""
    names = "abcd"[:dice.randrange(1, 5)]
    lines = [(dice.choice(names), str(k)) for k in range(dice.randrange(many + 1))]
    wild = dice.random() < 0.3
    if wild:
        lines = [("pqrs"[k], "") for k in range(many)]
    owns = dice.sample([None, None, None, "a", "b", "c", "e"], dice.randrange(1, 5))
    founds = []
    for own in owns:
        row = list(lines)
        if wild or dice.random() < 0.2:
            dice.shuffle(row)
        for _ in range(dice.randrange(3) if row else 0):
            k = dice.randrange(len(row))
            row[k - 1], row[k] = row[k], row[k - 1]
        if dice.random() < 0.5:
            row = [line for line in row if line[0] == own] + [line for line in row if line[0] != own]
        founds.append((own, row))
    return founds


class TestPicture(Case):
    def test_by_the_words(self):
        dice = seeded(91)
        alone = {"cross": 0, "three": 0, "homeless": 0, "away": 0, "ringed": 0, None: 0}
        for _ in range(1500):
            founds = random_whole(dice, 4)
            before = frozen(founds)
            pictures = all_pictures(founds)
            kinds = {shown[0] for shown in pictures} | ({"cross"} if crosses(founds) else set())
            told = picture(founds)
            self.assertIs(fits(founds), not kinds)
            if not kinds:
                alone[None] += 1
                self.assertIs(told, None)
            else:
                self.assertIs(type(told), tuple)
                self.assertIn(told[0], kinds)
                self.assertTrue(told[0] == "cross" or told in pictures)
                self.assertIs(is_picture(founds, told), True)
                for shown in dice.sample(pictures, min(len(pictures), 5)):
                    self.assertIs(is_picture(founds, shown), True)
                if len(kinds) == 1:
                    alone[told[0]] += 1
            self.assertEqual(frozen(founds), before)
        self.assertGreater(min(alone.values()), 2, alone)

    def test_each_kind_alone(self):
        for founds, kind in [(THREE, "three"), (HOME, "homeless"), (TWO_LINES, "homeless"), (AWAY, "away"), (RINGED, "ringed")]:
            pictures = all_pictures(founds)
            self.assertEqual([{shown[0] for shown in pictures}, crosses(founds)], [{kind}, False])
            self.assertIn(picture(founds), pictures)
            self.assertIs(fits(founds), False)
        self.assertEqual([all_pictures(FOUR), picture(FOUR)[0], is_picture(FOUR, picture(FOUR))], [[], "cross", True])
        # One line of ann is kept from all places here, or two lines of ann are.
        self.assertTrue(all(shown[1] == shown[3] for shown in all_pictures(HOME)))
        self.assertTrue(all(shown[1] != shown[3] for shown in all_pictures(TWO_LINES)))

    def test_rings_of_every_length(self):
        for many in range(1, 21):
            names = house_names(many)
            founds = ring_of(names)
            word, lot, ring = picture(founds)
            self.assertEqual([word, lot, sorted(ring)], ["ringed", (1,), sorted(names)])
            self.assertIs(is_picture(founds, (word, lot, ring)), True)
            self.assertIs(is_picture(founds, (word, lot, ring[::-1])), many < 3)
            self.assertIs(fits([(own, lines[1:] if k == 0 else [line for line in lines if line != (names[0], "1")])
                                for k, (own, lines) in enumerate(founds)]), many > 0)

    def test_no_picture(self):
        for founds in [[("ann", [])], [(None, [X, Y])], [(None, [X, Y])] * 12, [("ann", [X, Y]), ("bo", [Y, X])], [(None, ()), (None, ())]]:
            self.assertEqual([picture(founds), fits(founds)], [None, True])

    def test_small_founds_by_all_trees(self):
        dice = seeded(92)
        seen = {True: 0, False: 0}
        for _ in range(250):
            founds = random_whole(dice, 3)
            told = fits(founds)
            seen[told] += 1
            self.assertIs(fewest_slow(founds, 5) is not None, told and fewest(founds) <= 5, founds)
        self.assertGreater(min(seen.values()), 40)

    def test_ended_networks(self):
        dice = seeded(93)
        for _ in range(150):
            network = ended_network(dice, dice.randrange(1, 12), dice.randrange(16))
            seats = dice.sample(range(len(network.tree)), dice.randrange(1, min(len(network.tree), 12) + 1))
            self.assertEqual(picture(whole_founds(dice, network, seats)), None)
        network = ended_network(dice, 62, 40)
        self.assertIs(fits(whole_founds(dice, network, dice.sample(range(62), 12))), True)

    def test_large_at_random(self):
        dice = seeded(94)
        lines = [(name, "x") for name in house_names(40)]
        founds = [(None, dice.sample(lines, 40)) for _ in range(12)]
        self.assertIs(is_picture(founds, picture(founds)), True)
        many = [("abc"[k % 3], str(k)) for k in range(40)]
        founds = [(None, dice.sample(many, 40)) for _ in range(3)]
        self.assertIs(is_picture(founds, picture(founds)), True)

    def test_equal_answers(self):
        for founds in [THREE, HOME, AWAY, RINGED, FOUR]:
            self.assertEqual(picture(tuple((own, tuple(lines)) for own, lines in founds)), picture(founds=founds))


class TestIsPicture(Case):
    def test_all_candidates(self):
        dice = seeded(95)
        for founds in [THREE, HOME, AWAY, RINGED, *[random_whole(dice, 3) for _ in range(12)]]:
            lines, readers = founds[0][1], range(len(founds))
            pictures = {shown: True for shown in all_pictures(founds)}
            candidates = [("three", told, some) for told in product(lines, repeat=3) for some in product(readers, repeat=3)]
            candidates += [("homeless", *told, k) for told in product(lines, repeat=4) for k in readers]
            candidates += [("away", k, *told) for told in product(lines, repeat=2) for k in readers]
            names = sorted({line[0] for line in lines})
            lots = [lot for many in range(4) for lot in permutations(readers, many)]
            candidates += [("ringed", lot, told) for lot in lots for many in range(3) for told in product(names, repeat=many)]
            for shown in candidates:
                self.assertIs(is_picture(founds, shown), shown in pictures, (founds, shown))

    def test_wrong_values(self):
        three, home = ("three", (X, Y, M), (0, 1, 2)), ("homeless", X, M, X, Y, 2)
        away, ringed = ("away", 0, X, Y), ("ringed", (1,), ("cy",))
        for founds, right in [(THREE, three), (HOME, home), (AWAY, away), (RINGED, ringed), (FOUR, CROSS)]:
            self.assertIs(is_picture(value=right, founds=founds), True)
            wrong = [list(right), right[:-1], right + (0,), right[1:], ("Cross", *right[1:]), (None, *right[1:]), (*right[:-1], None),
                     ("cross" if right[0] != "cross" else "three", *right[1:]), (right[0],), ([right[0]], *right[1:])]
            for k, item in enumerate(right):
                for other in [None, True, 7, -1, (), [item], (item,), "zed", ("zed", "q"), list(item) if type(item) is tuple else {}]:
                    if other != item or type(other) is not type(item):
                        wrong.append((*right[:k], other, *right[k + 1:]))
            for value in wrong:
                self.assertIs(is_picture(founds, value), False, value)
            self.is_bool_for_all(lambda value: is_picture(founds, value), lambda value: False)
        for value in [("three", (X, Y, M), (False, True, 2)), ("three", [X, Y, M], (0, 1, 2)), ("three", (X, Y, M), [0, 1, 2]), ("three", (list(X), Y, M), (0, 1, 2)),
                      ("three", (X, Y, M), (0, 1, 3)), ("three", (X, Y, M), (0, 1, -1)), ("three", (X, X, Y), (0, 1, 2)), ("three", (Y, X, M), (0, 1, 2))]:
            self.assertIs(is_picture(THREE, value), False, value)
        for value in [("away", False, X, Y), ("away", 1, X, Y), ("away", 0, Y, X), ("away", 0, list(X), Y), ("away", 0, X, X)]:
            self.assertIs(is_picture(AWAY, value), False, value)
        # Lines that part the readers as they should.
        for value in [("away", 0, X, Y), ("away", 0, Y, X), ("away", 1, Y, X), ("away", 1, X, Y)]:
            self.assertIs(is_picture([("ann", [X, Y]), ("bo", [Y, X])], value), False, value)
        for value in [("ringed", (1,), ("cy", ["cy"])), ("ringed", (1,), ("cy", None)), ("ringed", (1,), (["cy"], "cy")), ("ringed", (1,), ("cy", {}))]:
            self.assertIs(is_picture(RINGED, value), False, value)
        for value in [("ringed", (True,), ("cy",)), ("ringed", [1], ("cy",)), ("ringed", (1,), ["cy"]), ("ringed", (1,), ()), ("ringed", (1,), ("cy", "cy")),
                      ("ringed", (0,), ("cy",)), ("ringed", (), ("cy",)), ("ringed", (2,), ("cy",)), ("ringed", (1,), "cy"), ("ringed", (1,), (["cy"],))]:
            self.assertIs(is_picture(RINGED, value), False, value)
        for value in [("homeless", X, M, X, Y, True), ("homeless", X, M, X, Y, 1), ("homeless", X, Y, X, Y, 2), ("homeless", X, X, X, Y, 2), ("homeless", X, M, Y, X, 2)]:
            self.assertIs(is_picture(HOME, value), False, value)
        self.assertIs(is_picture(HOME, ("homeless", X, Y, X, M, 2)), True)
        fitting = [("ann", [X, Y]), ("bo", [Y, X])]
        self.is_bool_for_all(lambda value: is_picture(fitting, value), lambda value: False)


class TestErrors(Case):
    def test_errors(self):
        calls = [picture, fits, lambda founds: is_picture(founds, None)]
        for call in calls:
            for value in any_values():
                if value not in ANY_WHOLE:
                    self.raises(InvalidFounds, {"given": value}, call, value)
            twice = [("ann", [X, X]), (None, [])]
            self.raises(InvalidFounds, {"given": twice}, call, twice)
            for founds, reader in [([(None, [X]), (None, [])], 1), ([(None, []), (None, [X])], 0), ([(None, [X]), (None, [Y])], 0),
                                   ([(None, [X, Y]), (None, [Y, X]), (None, [X])], 2), ([(None, [X, Y]), (None, [X, M]), (None, [Y, X])], 0),
                                   ([("ann", [Y, X]), (None, [X])], 1)]:
                self.raises(NotWhole, {"reader": reader}, call, founds)
