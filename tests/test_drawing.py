"""Points 131 and 132: the network behind whole logs."""

from maplost.drawing import drawing, is_behind, is_drawing
from maplost.errors import Fitless, InvalidFounds, LostError, NotWhole
from maplost.fewest import fewest
from maplost.networks import MOST_DEEDS, Network, both_ways, run_network
from maplost.pictures import fits, is_picture
from maplost.places import map_of, places
from maplost.trees import Tree
from tests.helpers import Case, any_values, ended_network, frozen, house_names, lists_in, round_network, seeded, whole_founds
from tests.slow_whole import fewest_slow
from tests.test_fewest import OTHERS, branching
from tests.test_pictures import ANY_WHOLE, AWAY, FOUR, HOME, RINGED, THREE, random_whole
from tests.test_rows import FOUNDS, TWO, random_fitting
from tests.test_truth import slow_true_map

A, B, C, D = ("ann", "1"), ("bo", "1"), ("cy", "1"), ("dee", "1")
STAR, FIVE = Tree(5, [(0, 1), (0, 2), (0, 3), (0, 4)]), ["bo", "ann", "cy", "dee", "eve"]
MAKES = [("make", house, "1") for house in range(4)]
HANDS = [("hand", house, 0) for house in [1, 2, 3]] + [("hand", 0, house) for house in [1, 1, 1, 2, 2, 2, 3, 3, 3, 4, 4, 4, 4]]
BEHIND = (STAR, FIVE, (1, 2, 3), MAKES + HANDS)


def are_behind(founds, value):
    """Whether the first two conditions of point 131 hold for a tuple of the right kinds."""
    tree, names, seats, script = value
    try:
        network = run_network(tree, names, script)
    except LostError:
        return False
    if network.stopped or any(deed[0] == "lose" for deed in script) or any(network.under_way(*road) for road in both_ways(tree)):
        return False
    borne = {line[0] for own, lines in founds for line in lines}
    for (own, lines), seat in zip(founds, seats):
        if network.log(seat) != tuple(lines) or (names[seat] in borne if own is None else names[seat] != own):
            return False
    return len(set(seats)) == len(seats) == len(founds)


def has_the_map(founds, value):
    """Whether the third condition of point 131 holds."""
    tree, names, seats, script = value
    told = []
    for lot, roads, arrows in slow_true_map(tree, names, seats):
        alike = [(i, j) for i in lot for j in range(len(founds)) if j not in lot and list(founds[i][1]) == list(founds[j][1])]
        if not alike:
            told.append((lot, roads))
    return told == [(lot, roads) for lot, roads, arrows in map_of(founds)]


class TestDrawing(Case):
    def check(self, founds):
        before = frozen(founds)
        told = drawing(founds)
        self.assertEqual([type(part) for part in told], [tuple, Tree, list, tuple, list][1:])
        self.assertIs(type(told), tuple)
        self.assertTrue(are_behind(founds, told))
        self.assertTrue(has_the_map(founds, told))
        self.assertEqual(len(told[0]), fewest(founds))
        self.assertLessEqual(len(told[3]), MOST_DEEDS)
        self.assertIs(is_behind(founds, told), True)
        self.assertIs(is_drawing(founds, told), True)
        self.assertEqual(frozen(founds), before)
        return told

    def test_ended_networks(self):
        dice = seeded(131)
        empty = 0
        for k in range(150):
            founds = branching(dice, dice.choice([0, 0.3, 1])) if k % 3 == 0 else random_fitting(dice)
            self.check(founds)
            empty += () in places(map_of(founds), len(founds))
        self.assertGreater(empty, 30)

    def test_founds_at_random(self):
        dice = seeded(132)
        many = 0
        while many < 100:
            founds = random_whole(dice, 4)
            if fits(founds):
                many += 1
                self.check(founds)

    def test_no_smaller_one(self):
        dice = seeded(133)
        many = 0
        while many < 30:
            founds = random_whole(dice, 3)
            if fits(founds) and fewest(founds) < 6:
                many += 1
                self.assertEqual(len(drawing(founds)[0]), fewest_slow(founds, 5), founds)

    def test_edges(self):
        for founds, houses in [([("bo", [])], 1), ([(None, [])], 1), ([(None, [A])], 2), ([("ann", [A])], 1), ([(None, [A]), ("ann", [A]), (None, [A])], 3),
                               ([(None, [])] * 12, 12), (FOUNDS, 4), (OTHERS, 4), (TWO, 5), ([("dan", [A, B]), ("eve", [B, A])], 4)]:
            self.assertEqual(len(self.check(founds)[0]), houses)
        tree, names, seats, script = self.check([("bo", [A]), (None, [A]), ("cy", [A])])
        self.assertEqual([len(tree), names[seats[0]], names[seats[2]]], [4, "bo", "cy"])
        self.assertNotIn(names[seats[1]], ["ann", "bo", "cy"])

    def test_names_that_look_fresh(self):
        letters = "abcdefghijklmnopqrstuvwxyz"
        lines = [(name, "x") for name in [*letters, *["a" + sign for sign in letters[:14]]]]
        founds = [(None, lines[::-1] if k % 2 else lines) for k in range(12)]
        self.assertEqual(len(self.check(founds)[0]), 52)

    def test_large(self):
        dice = seeded(134)
        for houses in [30, 62, 62]:
            network = ended_network(dice, houses, 40)
            self.check(whole_founds(dice, network, dice.sample(range(houses), 12)))
        spine = Tree(40, sorted([(k, k + 1) for k in range(27)] + [(2 * k, 28 + k) for k in range(12)]))
        network = round_network(dice, spine, range(40))
        founds = whole_founds(dice, network, range(28, 40), 0)
        self.assertEqual(len(self.check(founds)[0]), 40)

    def test_equal_answers_and_new_lists(self):
        for founds in [FOUNDS, TWO, OTHERS]:
            other = tuple((own, tuple(lines)) for own, lines in founds)
            told = drawing(founds=founds)
            self.assertEqual([told[0] == drawing(other)[0], told[1:]], [True, drawing(other)[1:]])
            self.assertEqual(len(lists_in(told)), 2)
            told[1].clear()
            told[3].clear()
            self.assertIs(is_drawing(founds, drawing(founds)), True)


class TestJudging(Case):
    def test_behind_and_no_drawing(self):
        self.assertIs(is_behind(value=BEHIND, founds=FOUNDS), True)
        self.assertIs(is_drawing(value=BEHIND, founds=FOUNDS), False)
        four = Tree(4, [(0, 1), (0, 2), (0, 3)])
        self.assertIs(is_drawing(FOUNDS, (four, FIVE[:4], (1, 2, 3), MAKES + HANDS[:-4])), True)
        # As few houses, but another map: two roads between readers of one place.
        founds = [("ann", [A]), ("bo", [A])]
        line, seated = Tree(2, [(0, 1)]), (["ann", "bo"], (0, 1))
        self.assertIs(is_drawing(founds, (line, *seated, [("make", 0, "1"), ("hand", 0, 1)])), True)

    def test_another_map(self):
        # The roads that part no readers with different lines are counted, too: here is one more.
        founds = [(None, [A, B]), (None, [B, A])]
        self.assertEqual([cut[:2] for cut in map_of(founds)], [((1,), 1)])
        deeds = [("make", 0, "1"), ("make", 2, "1"), ("hand", 0, 1), ("hand", 2, 3)]
        ring = Tree(4, [(0, 1), (1, 3), (2, 3)])
        deeds += [("hand", 1, 3), ("hand", 3, 1), ("hand", 1, 0), ("hand", 3, 2)]
        self.assertIs(is_drawing(founds, (ring, ["ann", "p", "bo", "q"], (1, 3), deeds)), True)
        line = Tree(4, [(0, 1), (0, 2), (2, 3)])
        deeds = [("make", 0, "1"), ("make", 2, "1"), ("hand", 0, 1), ("hand", 2, 3), ("hand", 0, 2), ("hand", 2, 0), ("hand", 0, 1), ("hand", 2, 3)]
        value = (line, ["ann", "p", "bo", "q"], (1, 3), deeds)
        self.assertEqual([is_behind(founds, value), is_drawing(founds, value)], [True, False])

    def test_one_log_is_another_one(self):
        for k, lines in enumerate([[A, B, D, C], [C, A, B, D], [D, B, C, A]]):
            founds = [(own, lines if at == k else row) for at, (own, row) in enumerate(FOUNDS)]
            self.assertIs(fits(founds), True)
            self.assertEqual([is_behind(founds, BEHIND), is_drawing(founds, BEHIND)], [False, False])

    def test_one_seat_for_two_readers(self):
        founds = [(None, [A]), (None, [A])]
        tree, names, seats, script = drawing(founds)
        self.assertEqual([len(tree), is_behind(founds, (tree, names, seats, script))], [3, True])
        for seat in seats:
            self.assertIs(is_behind(founds, (tree, names, (seat, seat), script)), False)

    def test_readers_alike(self):
        founds = [(None, [A]), ("ann", [A]), (None, [A])]
        for roads in [[(0, 1), (1, 2)], [(0, 1), (0, 2)], [(0, 2), (1, 2)]]:
            tree = Tree(3, roads)
            network = Network(tree, ["p", "ann", "q"])
            network.make(1, "1")
            again = round_of(network)
            self.assertIs(is_drawing(founds, (tree, ["p", "ann", "q"], (0, 1, 2), list(again.script))), True)

    def test_nearly_right_values(self):
        tree, names, seats, script = BEHIND
        other = Tree(5, [(0, 1), (0, 2), (0, 3), (3, 4)])
        wrong = [
            (other, names, seats, script), (STAR, names[::-1], seats, script), (STAR, ["bo", "ann", "cy", "eve", "dee"], seats, script),
            (STAR, tuple(names[:4]), seats, script), (STAR, [*names, "fay"], seats, script), (STAR, ["bo", "ann", "cy", "dee", "dee"], seats, script),
            (STAR, ["bo", "ann", "cy", "dee", "Eve"], seats, script), (STAR, names, (1, 3, 2), script), (STAR, names, [1, 2, 3], script),
            (STAR, names, (1, 2), script), (STAR, names, (1, 2, 3, 4), script), (STAR, names, (True, 2, 3), script), (STAR, names, (1, 2, 5), script),
            (STAR, names, (1, 2, 2), script), (STAR, names, (1, 2, None), script), (STAR, names, (1, 2, -1), script), (STAR, names, None, script),
            (STAR, names, seats, script[:-1]), (STAR, names, seats, [*script, ("hand", 0, 4)]), (STAR, names, seats, [*script, ("stop", 4)]),
            (STAR, names, seats, [*script, ("make", 4, "1")]), (STAR, names, seats, [*script[:-1], ("lose", 0, 4)]), (STAR, names, seats, script[::-1]),
            (STAR, names, seats, [list(deed) for deed in script]), (STAR, names, seats, script[1:]), (STAR, names, seats, None), (STAR, names, seats, "x"),
            (STAR, names, seats, [("make", False, "1"), *script[1:]]), (STAR, names, seats, [*script[:4], ("hand", True, 0), *script[5:]]),
            (None, names, seats, script), (STAR.line(), names, seats, script), (STAR, None, seats, script), list(BEHIND), BEHIND[:3], (*BEHIND, None), (),
            (Network(STAR, names), names, seats, script), (STAR, dict.fromkeys(names), seats, script), ((5, STAR.roads), names, seats, script),
        ]
        for value in wrong:
            self.assertIs(is_behind(FOUNDS, value), False, value)
            self.assertIs(is_drawing(FOUNDS, value), False, value)
        self.assertIs(is_behind(FOUNDS, (STAR, tuple(names), seats, tuple(script))), True)
        # The name that nobody needs may be any one, but not for a seat of no own name.
        self.assertIs(is_behind(FOUNDS, (STAR, ["bo", "ann", "cy", "dee", "zed"], seats, script)), True)
        unknown = [FOUNDS[0], FOUNDS[1], (None, FOUNDS[2][1])]
        self.assertIs(is_behind(unknown, BEHIND), False)
        for judge in [is_behind, is_drawing]:
            self.is_bool_for_all(lambda value: judge(FOUNDS, value), lambda value: False)

    def test_all_deeds_changed(self):
        """Each deed of a drawing left out, done twice, or turned into another one."""
        for founds in [FOUNDS, TWO]:
            tree, names, seats, script = drawing(founds)
            for k, deed in enumerate(script):
                changes = [[], [deed, deed], [("lose", *deed[1:])] if deed[0] == "hand" else [("make", deed[1], "zz")], [deed, ("stop", 0)]]
                if deed[0] == "hand":
                    changes.append([("hand", deed[2], deed[1])])
                for change in changes:
                    value = (tree, names, seats, [*script[:k], *change, *script[k + 1:]])
                    self.assertIs(is_behind(founds, value), are_behind(founds, value))
                    self.assertIs(is_drawing(founds, value), are_behind(founds, value))

    def test_other_networks(self):
        """Networks that leave the founds, with houses and roads of their own."""
        dice = seeded(135)
        seen = {True: 0, False: 0}
        for _ in range(300):
            houses = dice.randrange(1, 6)
            network = ended_network(dice, houses, dice.randrange(9))
            seats = tuple(dice.sample(range(houses), dice.randrange(1, houses + 1)))
            founds = whole_founds(dice, network, seats)
            value = (network.tree, list(network.names), seats, list(network.script))
            self.assertIs(is_behind(founds, value), True)
            told = is_drawing(founds, value)
            seen[told] += 1
            self.assertIs(told, has_the_map(founds, value) and houses == fewest(founds))
        self.assertGreater(min(seen.values()), 30, seen)


def round_of(network):
    """The network with all lines handed on."""
    roads = both_ways(network.tree)
    while any(network.under_way(*road) for road in roads):
        for road in roads:
            while network.under_way(*road):
                network.hand(*road)
    return network


class TestErrors(Case):
    def test_errors(self):
        calls = [drawing, lambda founds: is_behind(founds, None), lambda founds: is_drawing(founds, None)]
        for call in calls:
            for value in any_values():
                if value not in ANY_WHOLE:
                    self.raises(InvalidFounds, {"given": value}, call, value)
            self.raises(NotWhole, {"reader": 1}, call, [(None, [A, B]), (None, [B])])
            self.raises(NotWhole, {"reader": 0}, call, [("ann", [B]), (None, [B, A])])
            for founds in [AWAY, HOME, RINGED, THREE, FOUR]:
                with self.assertRaises(Fitless) as caught:
                    call(founds)
                self.assertIs(is_picture(founds, caught.exception.picture), True)
