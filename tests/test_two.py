"""Points 71, 72 and 74: two logs exactly."""

from maplost.arrows import roads_between
from maplost.errors import InvalidFounds, Nobodys, NotTwo
from maplost.trees import way
from maplost.two import is_two_picture, is_why_two_roads, two_fit, two_picture, two_roads, why_two_roads
from tests.helpers import Case, any_values, frozen, house_names, random_found, random_network, seeded
from tests.slow import all_rows, slow_roads

C, U, W, Y = ("cy", "m"), ("ann", "x"), ("ann", "w"), ("bo", "y")
NOBODYS = [("ann", [Y]), ("bo", [U])]
CALLS = [two_fit, two_picture, two_roads, why_two_roads]
JUDGES = [is_two_picture, is_why_two_roads]


def slow_arrows(founds, choice):
    """The arrows of a choice, as point 71 tells them."""
    (own0, lines0), (own1, lines1) = founds
    lines0, lines1 = list(lines0), list(lines1)
    both = [line for line in lines0 if line in lines1]

    def item(line):
        return 0 if line[0] == own0 else 1 if line[0] == own1 else line[0]

    def ahead(lines, line):
        return any(other in both for other in lines[lines.index(line) + 1:])

    pairs = {(0, 1)}
    for a in both:
        for b in both:
            if lines0.index(a) < lines0.index(b) and lines1.index(b) < lines1.index(a):
                pairs.add((item(a), item(b)))
    pairs |= {(item(a), 1) for a in lines0 if a not in lines1 and (choice == 0 or ahead(lines0, a))}
    pairs |= {(0, item(a)) for a in lines1 if a not in lines0 and (choice == 1 or ahead(lines1, a))}
    return pairs


def slow_longest(pairs):
    """The number of arrows in a longest row, or None if there is a ring."""
    ends, many = {item for pair in pairs for item in pair}, -1
    while ends:
        many += 1
        if many > 50:
            return None
        ends = {y for x, y in pairs if x in ends}
    return many


def shows_wrong(pairs, value):
    """Whether a tuple shows that a choice with these arrows does not hold, as point 72 tells it."""
    if len(value) == 2 and value[0] != value[1] and value in pairs and (value[1] == 0 or value[0] == 1):
        return True
    return len(set(value)) == len(value) > 0 and all(pair in pairs for pair in zip(value, (*value[1:], value[0])))


def holds(pairs):
    return slow_longest(pairs) is not None and not any(y == 0 or x == 1 for x, y in pairs)


def random_two(dice, many):
    """Two founds at random of up to so many lines."""
    pool = "abcd"[:dice.randrange(1, 5)]
    lines = [(dice.choice(pool), str(k)) for k in range(dice.randrange(many + 1))]
    rows = all_rows(lines)
    owns = dice.choice([(x, y) for x in [None, *"abcd"] for y in [None, *"abcd"] if x is None or x != y])
    return [(owns[0], list(dice.choice(rows))), (owns[1], list(dice.choice(rows)))]


def swapped_two(dice):
    """Two founds whose logs are much alike, of some more lines."""
    lines = [("abcdefg"[dice.randrange(7)], str(k)) for k in range(dice.randrange(1, 9))]
    founds = []
    for own in dice.choice([(None, None), ("a", None), (None, "b"), ("a", "b"), ("q", "a")]):
        row = list(lines)
        for _ in range(dice.randrange(8)):
            k = dice.randrange(len(row))
            row[k - 1], row[k] = row[k], row[k - 1]
        founds.append((own, [line for line in row if dice.random() < 0.85]))
    return founds


class TestTwo(Case):
    def check(self, founds):
        """All that the module tells of the founds is as the points say; the number of choices that hold."""
        before = frozen(founds)
        pairs = [slow_arrows(founds, choice) for choice in (0, 1)]
        good = [choice for choice in (0, 1) if holds(pairs[choice])]
        self.assertIs(two_fit(founds), bool(good))
        picture = two_picture(founds)
        if not good:
            self.assertTrue(all(shows_wrong(pairs[choice], picture[choice]) for choice in (0, 1)))
            self.assertIs(type(picture), tuple)
            self.assertIs(is_two_picture(founds, picture), True)
            self.assertIs(is_why_two_roads(founds, picture), False)
            for call in [two_roads, why_two_roads]:
                with self.assertRaises(Nobodys) as caught:
                    call(founds)
                self.assertIs(is_two_picture(founds, caught.exception.picture), True)
        else:
            self.assertIs(picture, None)
            roads = min(slow_longest(pairs[choice]) for choice in good)
            self.assertEqual(two_roads(founds), roads)
            papers = why_two_roads(founds)
            self.assertIs(type(papers), tuple)
            self.assertIs(is_why_two_roads(founds, papers), True)
            self.assertIs(is_two_picture(founds, papers), False)
            for choice in (0, 1):
                if choice in good:
                    self.assertGreater(len(papers[choice]), roads)
                    self.assertTrue(all(pair in pairs[choice] for pair in zip(papers[choice], papers[choice][1:])))
                    short = [papers[choice], papers[choice]]
                    short[choice] = papers[choice][:-1] if len(papers[choice]) == roads + 1 else papers[choice][:roads]
                    self.assertIs(is_why_two_roads(founds, tuple(short)), False)
                else:
                    self.assertTrue(shows_wrong(pairs[choice], papers[choice]))
        self.assertEqual(frozen(founds), before)
        return len(good)

    def test_as_the_words_say(self):
        dice = seeded(31)
        told = {0: 0, 1: 0, 2: 0}
        for k in range(2000):
            told[self.check(random_two(dice, 4) if k % 2 else swapped_two(dice))] += 1
        self.assertGreater(min(told.values()), 100)

    def test_as_all_rows_of_ways_tell(self):
        dice = seeded(32)
        for _ in range(400):
            founds = random_two(dice, 3)
            expected = slow_roads(founds, 3)
            self.assertEqual(two_roads(founds) if two_fit(founds) else None, expected, founds)

    def test_founds_of_networks(self):
        dice = seeded(33)
        for _ in range(200):
            network = random_network(dice, dice.randrange(2, 9), 12, dice.choice([0, 0.1, 0.3]))
            seats = dice.sample(range(len(network.tree)), 2)
            founds = [random_found(dice, network, house) for house in seats]
            self.assertIs(two_fit(founds), True)
            self.assertLess(two_roads(founds), len(way(network.tree, *seats)))
            self.assertLessEqual(roads_between(founds, 0, 1), two_roads(founds))

    def test_no_arrow_but_one(self):
        for founds in [[(None, []), (None, [])], [("ann", []), ("bo", ())], [(None, [C]), (None, [C])], [(None, [C]), ("bo", [])]]:
            self.assertEqual([two_fit(founds), two_picture(founds), two_roads(founds)], [True, None, 1])
            self.assertIs(is_why_two_roads(founds, ((0, 1), (0, 1))), True)

    def test_each_kind_of_arrow(self):
        # Lines of reader 0 alone: by the choice 0 in any case, by the choice 1 only ahead of a common line.
        self.assertIs(is_why_two_roads([("ann", [C]), ("bo", [U])], (("cy", 1), (0,))), True)
        self.assertIs(is_two_picture([("ann", [Y]), ("bo", [Y, U])], ((1,), (0,))), False)
        self.assertEqual(two_roads([(None, [U, C]), (None, [C])]), 1)
        self.assertEqual(two_roads([(None, [U, C]), (None, [W, C])]), 2)
        self.assertEqual(two_roads([(None, [C, U]), (None, [C, W])]), 1)
        # The line of the other end's own name is ahead of a common one, and not here.
        self.assertEqual(two_picture([("ann", [Y, C]), ("bo", [C])]), ((1,), (1,)))
        self.assertEqual(two_picture([("ann", [C]), ("bo", [U, C])]), ((0,), (0,)))
        self.assertIs(two_fit([("ann", [C, Y]), ("bo", [C])]), True)
        self.assertIs(two_fit([("ann", [C]), ("bo", [C, U])]), True)

    def test_rings_and_ends(self):
        n = ("cy", "n")
        founds = [(None, [C, n]), (None, [n, C])]
        self.assertEqual(two_picture(founds), (("cy",), ("cy",)))
        # An arrow leads to the end 0, and one from the end 1.
        founds = [("ann", [C, U]), ("bo", [U, C])]
        self.assertIs(is_two_picture(founds, (("cy", 0), ("cy", 0))), True)
        self.assertIs(is_two_picture(founds, ((0, 1), (0, 1))), False)
        founds = [("ann", [Y, C]), ("bo", [C, Y])]
        self.assertIs(is_two_picture(founds, ((1, "cy"), (1, "cy"))), True)
        # Such a tuple, and a ring: either will do.
        founds = [("ann", [Y, U]), ("bo", [U, Y])]
        for first in [(1, 0), (0, 1)]:
            for second in [(1, 0), (0, 1)]:
                self.assertIs(is_two_picture(founds, (first, second)), True)

    def test_longest(self):
        lines = [(name, "x") for name in house_names(40)]
        founds = [(None, lines), (None, lines[::-1])]
        self.assertEqual([two_roads(founds), two_fit(founds)], [39, True])
        self.assertEqual(why_two_roads(founds), (tuple(house_names(40)),) * 2)
        alone = [(None, lines[:20]), (None, lines[20:])]
        self.assertEqual(self.check(alone), 2)
        self.assertEqual(self.check([("a", lines[:20]), (lines[0][0], lines[20:])]), 1)

    def test_wrong_pictures(self):
        self.assertIs(is_two_picture(value=((1,), (0,)), founds=NOBODYS), True)
        wrong = [((1,),), ((1,), (0,), (0,)), [(1,), (0,)], ([1], (0,)), ((1,), [0]), ((True,), (0,)), ((1,), (False,)),
                 ((0,), (1,)), ((), (0,)), ((1,), ()), ((1, 1), (0,)), ((1,), (0, 0)), ((1,), None), ("1", "0"), ((1,), ("x",)),
                 ((1,), (None,)), (((1,),), (0,)), ((0, 1), (0,)), (("bo",), ("ann",)), ((1,), (2,)), ((1,), (-1,)),
                 ((1, 0), (0,)), ((1,), ("ann", 0)), ((1, "bo"), (0,)), ((1,), ([0],)), (("zed",), (0,))]
        for value in wrong:
            self.assertIs(is_two_picture(NOBODYS, value), False, value)
        self.is_bool_for_all(lambda value: is_two_picture(NOBODYS, value), lambda value: value == ((1,), (0,)) and type(value) is tuple)
        fitting = [(None, [U, C]), (None, [W, C])]
        self.is_bool_for_all(lambda value: is_two_picture(fitting, value), lambda value: False)

    def test_wrong_papers(self):
        founds = [(None, [U, C]), (None, [W, C])]
        row = (0, "ann", 1)
        self.assertIs(is_why_two_roads(value=(row, row), founds=founds), True)
        wrong = [(row,), (row, row, row), [row, row], (list(row), row), (row, list(row)), ((0, 1), row), (row, (0, 1)),
                 ((False, "ann", True), row), (row, (0, "ann", True)), (row, ()), ((), row), (row, ("ann", 1)), (row, (0, "cy", 1)),
                 (row, None), (row, (0, "ann", "bo")), (row, (0, 0, 1)), (row, (1, "ann", 0)), (row, (0, ("ann",), 1))]
        for value in wrong:
            self.assertIs(is_why_two_roads(founds, value), False, value)
        self.is_bool_for_all(lambda value: is_why_two_roads(founds, value), lambda value: False)
        self.is_bool_for_all(lambda value: is_why_two_roads(NOBODYS, value), lambda value: False)
        one_holds = [("ann", [C]), ("bo", [U])]
        self.assertIs(is_why_two_roads(one_holds, ((0, 1), (0,))), True)
        self.assertIs(is_why_two_roads(one_holds, ((0,), (0,))), False)
        self.assertIs(is_why_two_roads(one_holds, ((0, 1), (0, 1))), False)

    def test_longer_rows_will_do(self):
        """By the choice 0 the row is longer; the paper for it may have as few arrows as `two_roads` tells."""
        founds = [(None, [C, ("dee", "1"), ("dee", "2")]), (None, [("dee", "1"), C])]
        self.assertEqual([self.check(founds), two_roads(founds)], [2, 1])
        for row in [("cy", "dee", 1), ("cy", "dee"), ("dee", 1), (0, 1)]:
            self.assertIs(is_why_two_roads(founds, (row, (0, 1))), True)
            self.assertIs(is_why_two_roads(founds, ((0, 1), row)), row != ("cy", "dee", 1) and row != ("dee", 1))

    def test_equal_answers(self):
        for founds in [NOBODYS, [(None, [U, C]), (None, [W, C])]]:
            other = tuple((own, tuple(lines)) for own, lines in founds)
            self.assertEqual(two_picture(founds), two_picture(other))
        self.assertEqual(why_two_roads([(None, [U, C]), (None, [W, C])]), why_two_roads(((None, (U, C)), (None, (W, C)))))


class TestErrors(Case):
    def test_invalid_founds(self):
        for value in any_values():
            if value in ([("ann", [])], [(None, [])], ((None, ()),), [(None, [U])]):
                continue
            for call in CALLS:
                self.raises(InvalidFounds, {"given": value}, call, value)
            for judge in JUDGES:
                self.raises(InvalidFounds, {"given": value}, judge, value, value)
        twice = [("ann", []), ("ann", [])]
        self.raises(InvalidFounds, {"given": twice}, two_fit, twice)

    def test_not_two(self):
        for many in [1, 3, 12]:
            founds = [(None, [])] * many
            for call in CALLS:
                self.raises(NotTwo, {"many": many}, call, founds)
            for judge in JUDGES:
                self.raises(NotTwo, {"many": many}, judge, founds, None)

    def test_nobodys(self):
        self.raises(Nobodys, {"picture": ((1,), (0,))}, two_roads, NOBODYS)
        self.raises(Nobodys, {"picture": ((1,), (0,))}, why_two_roads, NOBODYS)
        self.assertEqual([two_fit(founds=NOBODYS), two_picture(founds=NOBODYS)], [False, ((1,), (0,))])
