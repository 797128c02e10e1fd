"""Points 141 and 142: parts of names, the fewest houses, and what shows that there are no fewer."""

from itertools import combinations, product

from maplost.errors import Fitless, InvalidFounds, InvalidName, NotWhole
from maplost.fewest import fewest, is_why_no_fewer, part, why_no_fewer
from maplost.matches import matching, short_of
from maplost.pictures import fits, is_picture
from maplost.places import map_of, places
from maplost.trees import Tree
from tests.helpers import Case, any_values, ended_network, ends_of, frozen, long_tree, round_network, seeded, whole_founds
from tests.slow_whole import fewest_slow
from tests.test_pictures import ANY_WHOLE, AWAY, FOUR, HOME, RINGED, THREE, random_whole, sides
from tests.test_rows import FOUNDS, TWO, places_on_side, random_fitting

A, B, C, D = ("ann", "1"), ("bo", "1"), ("cy", "1"), ("dee", "1")
LATE = ("cy", "0")
OTHERS = [("bo", [B, LATE, C, D]), ("cy", [LATE, C, B, D]), ("dee", [LATE, B, D, C])]


def all_names(founds):
    return sorted({line[0] for own, lines in founds for line in lines} | {own for own, lines in founds if own})


def slow_part(founds, name):
    drawn = map_of(founds)
    told = set(range(len(drawn) + 1))
    for (a, y), side in sides(founds).items():
        if a[0] == name:
            told &= places_on_side(drawn, len(founds), side)
    return sorted(told)


def choices_of(founds):
    """For each place without readers the names that it can get."""
    owns = [own for own, lines in founds]
    parts = {name: slow_part(founds, name) for name in all_names(founds) if name not in owns}
    homes = places(map_of(founds), len(founds))
    return {k: [name for name in parts if k in parts[name]] for k, readers in enumerate(homes) if not readers}


def most_matched(choices):
    """The greatest number of places that can get different names, by trying all."""
    most = 0
    for chosen in product(*[[None, *names] for names in choices.values()]):
        names = [name for name in chosen if name is not None]
        if len(set(names)) == len(names):
            most = max(most, len(names))
    return most


def branching(dice, writers):
    """Whole founds of the ends of a tree, of a round of some houses."""
    spine = dice.randrange(1, 6)
    roads = [(k, k + 1) for k in range(spine - 1)] + [(k % spine, spine + k) for k in range(2 * spine)]
    tree = Tree(3 * spine, sorted(roads)) if spine > 1 else Tree(4, [(0, 1), (0, 2), (0, 3)])
    seats = ends_of(tree)
    inner = [house for house in range(len(tree)) if house not in seats]
    some = seats + dice.sample(inner, int(writers * len(inner)))
    dice.shuffle(seats)
    return whole_founds(dice, round_network(dice, tree, some), seats[:dice.randrange(len(seats) // 2, 13)], 0.2)


class TestFewest(Case):
    def check(self, founds):
        """All that points 141 and 142 tell of the founds."""
        before = frozen(founds)
        for name in all_names(founds):
            self.assertEqual(part(founds, name), slow_part(founds, name))
        choices = choices_of(founds)
        left = len(choices) - most_matched(choices)
        unknown = sum(own is None for own, lines in founds)
        self.assertEqual(fewest(founds), len(all_names(founds)) + unknown + left)
        told = why_no_fewer(founds)
        self.assertIs(is_why_no_fewer(founds, told), True)
        self.assertEqual([type(told), type(told[0]), type(told[1])], [tuple] * 3)
        for many in range(len(choices) + 1):
            for some in combinations(sorted(choices), many):
                names = tuple(sorted({name for k in some for name in choices[k]}))
                shows = len(some) - len(names) == left
                self.assertIs(is_why_no_fewer(founds, (some, names)), shows)
                self.assertTrue(shows or told != (some, names))
        self.assertEqual(frozen(founds), before)
        return len(choices), left

    def test_by_the_words(self):
        dice = seeded(111)
        seen = {}
        for k in range(150):
            told = self.check(branching(dice, dice.choice([0, 0.2, 0.5])) if k % 3 else random_fitting(dice))
            seen[told] = seen.get(told, 0) + 1
        self.assertGreater(min(seen.get(told, 0) for told in [(0, 0), (1, 0), (1, 1), (2, 0), (2, 1)]), 3, seen)

    def test_by_all_trees(self):
        dice = seeded(112)
        many = 0
        while many < 60:
            founds = random_whole(dice, 3)
            if fits(founds) and fewest(founds) < 6:
                many += 1
                self.assertEqual(fewest_slow(founds, 5), fewest(founds), founds)
        for founds, houses in [(FOUNDS, 4), (OTHERS, 4), (TWO, 5), ([("ann", [])], 1), ([(None, [])], 1), ([(None, [A])], 2), ([("ann", []), (None, [])], 2)]:
            self.assertEqual([fewest_slow(founds, 5), fewest(founds)], [houses, houses])

    def test_names_between_have_no_part(self):
        self.assertEqual([part(TWO, name) for name in ("ann", "bo", "cy")], [[1], [], [0]])
        self.assertEqual([part(TWO[:1], "bo"), part([("dan", []), ("eve", [])], "eve")], [[0], [0]])
        silent = [("dan", [A, B]), ("eve", [B, A])]
        self.assertEqual([part(silent, name) for name in ("ann", "bo", "dan", "eve")], [[0], [1], [0, 1], [0, 1]])

    def test_large(self):
        dice = seeded(113)
        for _ in range(3):
            network = ended_network(dice, 62, 40)
            founds = whole_founds(dice, network, dice.sample(range(62), 12))
            self.assertIs(is_why_no_fewer(founds, why_no_fewer(founds)), True)
            self.assertLessEqual(fewest(founds), 62)
        star = round_network(dice, long_tree(dice, 40), range(40))
        founds = whole_founds(dice, star, ends_of(star.tree)[:12], 0)
        self.assertLessEqual(fewest(founds), 40)

    def test_by_name_new_and_equal(self):
        other = tuple((own, tuple(lines)) for own, lines in OTHERS)
        self.assertEqual([part(name="cy", founds=other), fewest(founds=other), why_no_fewer(founds=other)], [[1], 4, ((2,), ())])
        self.assertIs(is_why_no_fewer(value=((2,), ()), founds=other), True)
        told = part(OTHERS, "cy")
        told.clear()
        self.assertEqual(part(OTHERS, "cy"), [1])


class TestIsWhyNoFewer(Case):
    def test_wrong_values(self):
        wrong = [((), ()), ((2,), ("bo",)), ([2], ()), ((2,), []), [(2,), ()], ((2,),), ((2,), (), ()), ((0,), ()), ((1,), ()), ((2, 2), ()), ((3,), ()),
                 ((-1,), ()), ((None,), ()), (("2",), ()), (((2,),), ()), ((2,), ((),)), ((2,), (None,)), (2, ()), ((2,), None), ((2,), "")]
        for value in wrong:
            self.assertIs(is_why_no_fewer(OTHERS, value), False, value)
        self.is_bool_for_all(lambda value: is_why_no_fewer(OTHERS, value), lambda value: False)
        for value in [((2,), ("bo",)), ((), ())]:
            self.assertIs(is_why_no_fewer(FOUNDS, value), True)
        for value in [((2,), ()), ((), ("bo",)), ((2,), ["bo"]), ((2,), ("bo", "bo")), ((2,), ("ann",)), ((2,), (["bo"],)), ((2,), "bo"), ([2], ("bo",))]:
            self.assertIs(is_why_no_fewer(FOUNDS, value), False, value)

    def test_true_is_no_place(self):
        dice = seeded(114)
        for _ in range(300):
            founds = branching(dice, 0)
            told = why_no_fewer(founds)
            if 1 in told[0]:
                self.assertIs(is_why_no_fewer(founds, (tuple(True if k == 1 else k for k in told[0]), told[1])), False)
                return
        self.fail("no such founds")

    def test_order(self):
        dice = seeded(115)
        seen = 0
        for _ in range(200):
            founds = branching(dice, 0.1)
            numbers, names = why_no_fewer(founds)
            if len(numbers) > 1:
                self.assertIs(is_why_no_fewer(founds, (numbers[::-1], names)), False)
                self.assertIs(is_why_no_fewer(founds, (numbers[1:], names)) and len(names) > 0, False)
                seen += 1
        self.assertGreater(seen, 5)


class TestMatches(Case):
    def test_all_choices(self):
        dice = seeded(116)
        for _ in range(500):
            pool = "abcde"[:dice.randrange(1, 6)]
            choices = {k: sorted(dice.sample(pool, dice.randrange(min(len(pool), 3) + 1))) for k in dice.sample(range(9), dice.randrange(6))}
            taken = matching(choices)
            self.assertEqual(len(taken), most_matched(choices))
            self.assertEqual(len(set(taken.values())), len(taken))
            self.assertTrue(all(name in choices[k] for name, k in taken.items()))
            numbers = short_of(choices)
            self.assertEqual(len(numbers) - len({name for k in numbers for name in choices[k]}), len(choices) - len(taken))
            self.assertEqual(numbers, sorted(set(numbers)))

    def test_many(self):
        choices = {k: list("abcdefghijklmnopqrstuvwxyz")[:k + 1] for k in range(26)}
        self.assertEqual([len(matching(choices)), short_of(choices)], [26, []])
        choices = {k: list("abcdefghijklmnopqrstuvwxyz") for k in range(40)}
        self.assertEqual([len(matching(choices)), short_of(choices)], [26, list(range(40))])


class TestErrors(Case):
    def test_errors(self):
        calls = [fewest, why_no_fewer, lambda founds: part(founds, None), lambda founds: is_why_no_fewer(founds, None)]
        for call in calls:
            for value in any_values():
                if value not in ANY_WHOLE:
                    self.raises(InvalidFounds, {"given": value}, call, value)
            self.raises(NotWhole, {"reader": 1}, call, [(None, [A, B]), (None, [B])])
            self.raises(NotWhole, {"reader": 0}, call, [("ann", [B]), (None, [B, A])])
            for founds in [AWAY, HOME, RINGED, THREE, FOUR]:
                with self.assertRaises(Fitless) as caught:
                    call(founds)
                self.assertIs(is_picture(founds, caught.exception.picture), True)

    def test_invalid_name(self):
        for value in [*any_values(), "eve", "an", "annn", ["ann"], ("ann",)]:
            if value != "ann":
                self.raises(InvalidName, {"given": value}, part, FOUNDS, value)
        self.assertEqual(part([("dan", [])], "dan"), [0])
        self.raises(InvalidName, {"given": "ann"}, part, [("dan", [])], "ann")
