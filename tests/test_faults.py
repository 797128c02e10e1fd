"""Points 181 and 182: faults of cut logs, and whose log would have to be put aside."""

from maplost.errors import InvalidFounds
from maplost.faults import culprits, fault, is_fault
from maplost.founds import common, cut_back, goes_on
from maplost.pictures import is_picture, picture
from tests.helpers import Case, any_values, frozen, lists_in, random_found, random_network, seeded
from tests.test_cuts import FOUR
from tests.test_pictures import ANY_WHOLE, AWAY, HOME, RINGED, THREE, TWO_LINES, all_pictures, crosses, random_whole

X, Y, M = ("ann", "x"), ("bo", "y"), ("cy", "m")
LONE = [("eve", "1"), ("eve", "2"), ("dan", "1"), ("dan", "2")]
EACH_KIND = [(FOUR, "cross"), (THREE, "three"), (HOME, "homeless"), (TWO_LINES, "homeless"), (AWAY, "away"), (RINGED, "ringed")]


def common_alone(founds):
    """The founds in which each reader has the common lines alone."""
    lists = [list(lines) for own, lines in founds]
    return [(own, [line for line in lines if all(line in row for row in lists)]) for own, lines in founds]


def with_lone_lines(dice, founds):
    """The founds with some more lines, none of which all readers have."""
    told = []
    lacking = {line: dice.randrange(len(founds)) for line in LONE}
    for reader, (own, lines) in enumerate(founds):
        row = list(lines)
        for line in dice.sample(LONE, 4):
            if lacking[line] != reader and dice.random() < 0.8:
                row.insert(dice.randrange(len(row) + 1), line)
        told.append((own, row if dice.random() < 0.5 else tuple(row)))
    return told


class TestFault(Case):
    def test_by_the_words(self):
        dice = seeded(231)
        seen = {"cross": 0, "three": 0, "homeless": 0, "away": 0, "ringed": 0, None: 0, "lone": 0}
        for _ in range(700):
            founds = with_lone_lines(dice, random_whole(dice, 4))
            before = frozen(founds)
            plain = common_alone(founds)
            seen["lone"] += frozen(plain) != before
            pictures = all_pictures(plain)
            kinds = {shown[0] for shown in pictures} | ({"cross"} if crosses(plain) else set())
            told = fault(founds)
            self.assertEqual(told, picture(plain))
            self.assertIs(told is None, not kinds)
            seen[told and told[0]] += 1
            if told is not None:
                self.assertTrue(told in pictures or told[0] == "cross" and is_picture(plain, told))
                for shown in [told, *dice.sample(pictures, min(5, len(pictures)))]:
                    self.assertIs(is_fault(founds, shown), True)
            self.assertEqual(frozen(founds), before)
        self.assertGreater(min(seen.values()), 5, seen)

    def test_each_kind(self):
        dice = seeded(232)
        for plain, kind in EACH_KIND:
            for _ in range(20):
                founds = with_lone_lines(dice, plain)
                told = fault(founds)
                self.assertEqual(told[0], kind)
                self.assertEqual(told, picture(plain))
                self.assertIs(is_fault(founds, told), True)
                self.assertIs(is_fault(founds, list(told)), False)
                self.assertIs(is_fault(founds, told[:-1]), False)

    def test_common_lines_alone_count(self):
        # Each of these has a picture by lines that some reader lacks.
        for founds in [[("ann", [Y, X]), ("bo", [X, Y]), (None, [Y])], [(None, [M, ("cy", "n")]), (None, [("cy", "n"), M]), (None, [M])],
                       [*FOUR, (None, [FOUR[0][1][0]])], [*THREE, (None, [X, Y])], [("ann", [Y, X]), (None, [])]]:
            self.assertEqual([fault(founds), culprits(founds)], [None, []])
        founds = [("ann", [Y, X]), ("bo", [X, Y]), (None, [Y])]
        self.assertIs(is_fault(founds, ("away", 0, X, Y)), False)
        self.assertIs(is_fault(founds[:2], ("away", 0, X, Y)), True)

    def test_one_reader_has_none(self):
        for founds in [[("ann", [])], [(None, [X, Y, M])], [("ann", (Y, X))]]:
            self.assertEqual([fault(founds), culprits(founds), is_fault(founds, ("away", 0, X, Y))], [None, [], False])

    def test_networks_have_none(self):
        dice = seeded(233)
        for _ in range(120):
            network = random_network(dice, dice.randrange(1, 9), 12, dice.choice([0, 0.1]))
            seats = dice.sample(range(len(network.tree)), dice.randrange(1, min(len(network.tree), 6) + 1))
            founds = [random_found(dice, network, house) for house in seats]
            self.assertEqual([fault(founds), culprits(founds)], [None, []])

    def test_a_name_that_two_houses_bear(self):
        founds = [("ann", [X, ("ann", "z"), Y]), ("bo", [Y, ("ann", "z"), X]), ("cy", [("ann", "z"), X, Y])]
        self.assertIs(is_fault(founds, ("ringed", (1, 2), ("ann",))), True)
        self.assertIsNot(fault(founds), None)

    def test_faults_stay_as_logs_go_on(self):
        dice = seeded(234)
        seen = 0
        for _ in range(700):
            later = with_lone_lines(dice, random_whole(dice, 4))
            founds = cut_back(later, [dice.randrange(max(0, len(lines) - 2), len(lines) + 1) for own, lines in later])
            self.assertIs(goes_on(founds, later), True)
            told = fault(founds)
            if told is not None:
                seen += common(founds) != common(later)
                self.assertIs(is_fault(later, told), True)
                self.assertIsNot(fault(later), None)
        self.assertGreater(seen, 30)

    def test_any_value(self):
        for founds, kind in EACH_KIND:
            self.is_bool_for_all(lambda value: is_fault(founds, value), lambda value: False)
        self.assertIs(is_fault(value=("away", 0, X, Y), founds=AWAY), True)
        self.is_bool_for_all(lambda value: is_fault([("ann", [X])], value), lambda value: False)

    def test_equal_answers(self):
        for founds, kind in EACH_KIND:
            other = tuple((own, tuple(lines)) for own, lines in founds)
            self.assertEqual([fault(founds=other), culprits(founds=other)], [fault(founds), culprits(founds)])


class TestCulprits(Case):
    def test_by_the_words(self):
        dice = seeded(235)
        seen = {"none": 0, "some": 0, "nobody": 0}
        for _ in range(700):
            founds = with_lone_lines(dice, random_whole(dice, 4))
            before = frozen(founds)
            expected = []
            if picture(common_alone(founds)) is not None:
                for k in range(len(founds)):
                    others = [item for i, item in enumerate(founds) if i != k]
                    if picture(common_alone(others)) is None:
                        expected.append(k)
                seen["some" if expected else "nobody"] += 1
            else:
                seen["none"] += 1
            told = culprits(founds)
            self.assertEqual(told, expected)
            self.assertEqual(len(lists_in(told)), 1)
            told.append(1)
            self.assertEqual(culprits(founds), expected)
            self.assertEqual(frozen(founds), before)
        self.assertGreater(min(seen.values()), 30, seen)

    def test_common_lines_are_formed_anew(self):
        n = ("cy", "n")
        # Without reader 2 two more lines are common, and they show another fault: so nobody alone can be put aside.
        founds = [(None, [X, Y, M, n]), (None, [X, Y, n, M]), ("ann", [Y, X])]
        self.assertEqual([fault(founds), culprits(founds)], [("away", 2, X, Y), []])
        founds[1] = (None, [X, Y, M, n])
        self.assertEqual([fault(founds), culprits(founds)], [("away", 2, X, Y), [2]])
        # Without reader 2 or 3 there is none, although more lines than before are common without reader 2.
        founds = [(None, [Y, X, M]), (None, [Y, M, X]), ("ann", [Y, X]), (None, [X, Y, M])]
        self.assertEqual([fault(founds), culprits(founds)], [("away", 2, X, Y), [2, 3]])

    def test_two_readers(self):
        for founds in [AWAY, RINGED]:
            self.assertEqual(culprits(founds), [0, 1])


class TestErrors(Case):
    def test_invalid_founds(self):
        twice = [("ann", [X, X])]
        for call in [fault, culprits, lambda founds: is_fault(founds, None)]:
            for value in [twice, [], *any_values()]:
                if value not in ANY_WHOLE:
                    self.raises(InvalidFounds, {"given": value}, call, value)
