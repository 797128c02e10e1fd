"""Points 160 to 163: rounds."""

from itertools import permutations

from maplost.cuts import is_cross
from maplost.errors import (
    Crossed, InvalidFounds, InvalidHouse, InvalidIndex, InvalidText, LostError, NotARoad, NothingUnderWay, Stopped,
)
from maplost.founds import found, is_founds
from maplost.networks import Network, both_ways, run_network
from maplost.places import map_of
from maplost.rounds import hear, names_between, of_round, round_map, spread, told_all
from maplost.texts import is_round
from maplost.trees import Tree, way
from maplost.truth import meets, true_map
from tests.helpers import (
    Case, any_values, frozen, house_names, lists_in, long_tree, path, random_network, random_tree, round_run, seeded,
)
from tests.test_networks import state

NAMES = ["ann", "bo", "cy"]
NEARLY = ["round 07", "round 00", "round  7", "round 7 ", " round 7", "round 1234567890", "round", "round ", "Round 7", "round -7",
          "round +7", "round 7a", "round 7.0", "rounds 7", "round7", "7", ""]
ROUNDS = ["round 0", "round 7", "round 10", "round 123456789"]
ANY_FOUNDS = ([("ann", [])], [(None, [])], ((None, ()),), [(None, [("ann", "x")])])
A, B, C, D = [(name, "round 1") for name in ("ann", "bo", "cy", "dee")]
FOUR = [(None, [A, B, C, D]), (None, [A, B, D, C]), (None, [B, A, C, D]), (None, [B, A, D, C])]


def copy_of(network):
    return run_network(network.tree, network.names, network.script)


def keeps_rounds(network):
    """Whether the run keeps all rounds: whoever has a line of a round of another one has the own line ahead of it."""
    for house, name in enumerate(network.names):
        log = network.log(house)
        for k, (writer, text) in enumerate(log):
            if is_round(text) and writer != name and (name, text) not in log[:k]:
                return False
    return True


class TestHear(Case):
    def test_makes_the_own_line_first(self):
        for text in ROUNDS:
            network = Network(path(3), NAMES)
            network.make(1, "rings")
            network.make(0, text)
            self.assertEqual(hear(network, 0, 1), ("ann", text))
            self.assertEqual(network.script[2:], (("make", 1, text), ("hand", 0, 1)))
            self.assertEqual(network.log(1), (("bo", "rings"), ("bo", text), ("ann", text)))

    def test_makes_nothing_otherwise(self):
        for text in NEARLY:
            network = Network(path(3), NAMES)
            network.make(0, text)
            self.assertEqual(hear(v=1, network=network, u=0), ("ann", text))
            self.assertEqual(network.script, (("make", 0, text), ("hand", 0, 1)))
        # It has written this very text; a text of another round, and a line of another house with it, do not count.
        network = Network(path(3), NAMES)
        for house, text in [(1, "round 7"), (0, "round 7"), (0, "round 8"), (2, "round 8")]:
            network.make(house, text)
        self.assertEqual(hear(network, 0, 1), ("ann", "round 7"))
        self.assertEqual(network.script[4:], (("hand", 0, 1),))
        network.hand(2, 1)
        self.assertEqual(hear(network, 0, 1), ("ann", "round 8"))
        self.assertEqual(network.script[5:], (("hand", 2, 1), ("make", 1, "round 8"), ("hand", 0, 1)))
        self.assertEqual(network.log(1)[-3:], (("cy", "round 8"), ("bo", "round 8"), ("ann", "round 8")))

    def test_the_next_line_alone_counts(self):
        network = Network(path(3), NAMES)
        for text in ["x", "round 1"]:
            network.make(0, text)
        self.assertEqual(hear(network, 0, 1), ("ann", "x"))
        self.assertEqual(network.log(1), (("ann", "x"),))
        # What is handed on counts as what a neighbour wrote.
        hear(network, 0, 1)
        self.assertEqual([hear(network, 1, 2), hear(network, 1, 2), hear(network, 1, 2)], [("ann", "x"), ("bo", "round 1"), ("ann", "round 1")])
        self.assertEqual(network.log(2), (("ann", "x"), ("cy", "round 1"), ("bo", "round 1"), ("ann", "round 1")))

    def test_errors_are_those_of_hand_and_change_nothing(self):
        network = Network(path(3), NAMES)
        network.make(0, "round 1")
        before = state(network)
        for value in any_values():
            if type(value) is not int or value not in (0, 1, 2):
                self.raises(InvalidHouse, {"given": value}, hear, network, value, [])
                self.raises(InvalidHouse, {"given": value}, hear, network, 2, value)
        self.raises(NotARoad, {"u": 0, "v": 2}, hear, network, 0, 2)
        self.raises(NotARoad, {"u": 0, "v": 0}, hear, network, 0, 0)
        self.raises(NothingUnderWay, {"u": 1, "v": 0}, hear, network, 1, 0)
        self.assertEqual(state(network), before)
        network.stop(1)
        before = state(network)
        self.raises(Stopped, {"house": 1}, hear, network, 0, 1)
        self.raises(Stopped, {"house": 1}, hear, network, 1, 0)
        self.raises(Stopped, {"house": 1}, hear, network, 2, 1)
        self.raises(NotARoad, {"u": 0, "v": 2}, hear, network, 0, 2)
        self.assertEqual(state(network), before)
        network.stop(0)
        before = state(network)
        self.raises(Stopped, {"house": 0}, hear, network, 0, 1)
        self.raises(Stopped, {"house": 1}, hear, network, 1, 0)
        self.assertEqual(state(network), before)
        # The line of a house that has stopped leaves nothing made at the other end of the road.
        network = Network(path(3), NAMES)
        network.make(0, "round 1")
        network.stop(0)
        before = state(network)
        self.raises(Stopped, {"house": 0}, hear, network, 0, 1)
        self.assertEqual(state(network), before)

    def test_at_random(self):
        dice = seeded(201)
        made = 0
        for _ in range(150):
            tree = random_tree(dice, dice.randrange(2, 6))
            network = round_run(dice, tree, ["round 1", "round 2", "x", "y"], dice.randrange(30), lambda u, v, line: True, 0.02)
            for u, v in both_ways(tree):
                plain, heard = copy_of(network), copy_of(network)
                name, waiting = network.names[v], network.under_way(u, v)
                halted = u in network.stopped or v in network.stopped
                if waiting and not halted and is_round(waiting[0][1]) and (name, waiting[0][1]) not in network.log(v):
                    plain.make(v, waiting[0][1])
                    made += 1
                try:
                    expected = plain.hand(u, v)
                    self.assertEqual(hear(heard, u, v), expected)
                except LostError as error:
                    self.raises(type(error), vars(error), hear, heard, u, v)
                self.assertEqual(state(heard), state(plain))
        self.assertGreater(made, 30)

    def test_runs_keep_rounds(self):
        dice = seeded(202)
        lines = 0
        for _ in range(150):
            tree = random_tree(dice, dice.randrange(1, 8))
            network = round_run(dice, tree, ["round 1", "round 2", "x"], dice.randrange(100), lambda u, v, line: True, 0.01)
            self.assertTrue(keeps_rounds(network))
            lines += sum(len(network.log(house)) for house in range(tree.houses))
        self.assertGreater(lines, 1000)
        broken = run_network(path(2), ["ann", "bo"], [("make", 0, "round 1"), ("hand", 0, 1)])
        self.assertFalse(keeps_rounds(broken))


class TestSpread(Case):
    def test_nothing_is_left(self):
        dice = seeded(203)
        stopped = 0
        for _ in range(100):
            tree = random_tree(dice, dice.randrange(1, 9))
            network = round_run(dice, tree, ["round 1", "round 2", "x"], dice.randrange(25), lambda u, v, line: True, 0.01)
            done, halted = network.script, network.stopped
            self.assertIs(spread(network=network), None)
            for u, v in both_ways(tree):
                if u not in halted and v not in halted:
                    self.assertEqual(network.under_way(u, v), ())
            stopped += len(halted) > 0
            self.assertEqual([network.script[:len(done)], network.stopped], [done, halted])
            self.assertEqual({deed[0] for deed in network.script[len(done):]} - {"make", "hand"}, set())
            self.assertTrue(keeps_rounds(network))
            # Each deed is one of `hear`: a house makes a line just before one with its text is handed over to it.
            rest = network.script[len(done):]
            for deed, after in zip(rest, rest[1:] + (None,)):
                if deed[0] == "make":
                    self.assertEqual([after[0], after[2], is_round(deed[2])], ["hand", deed[1], True])
        self.assertGreater(stopped, 10)

    def test_one_round_comes_to_all(self):
        dice = seeded(204)
        for houses in [1, 2, 7, 40]:
            tree = random_tree(dice, houses)
            network = Network(tree, house_names(houses))
            network.make(dice.randrange(houses), "round 3")
            spread(network)
            expected = sorted((name, "round 3") for name in network.names)
            for house in range(houses):
                self.assertEqual(network.log(house)[:1], ((network.names[house], "round 3"),))
                self.assertEqual(sorted(network.log(house)), expected)

    def test_stopped_houses(self):
        network = Network(path(4), ["ann", "bo", "cy", "dee"])
        network.make(0, "round 3")
        network.make(3, "x")
        network.stop(2)
        spread(network)
        self.assertEqual([network.log(house) for house in (2, 3)], [(), (("dee", "x"),)])
        self.assertEqual(network.log(1), (("bo", "round 3"), ("ann", "round 3")))
        self.assertEqual(network.log(0), (("ann", "round 3"), ("bo", "round 3")))
        before = state(network)
        spread(network)
        self.assertEqual(state(network), before)

    def test_other_lines_are_handed_on_too(self):
        network = Network(path(3), NAMES)
        for house, text in [(0, "x"), (0, "round 07"), (2, "round 1")]:
            network.make(house, text)
        spread(network)
        for house in range(3):
            texts = [("ann", "round 07"), ("ann", "x")] + [(name, "round 1") for name in NAMES]
            self.assertEqual(sorted(network.log(house)), sorted(texts))


def random_rounds(dice):
    """Founds with lines of two rounds and others, which need not be those of a network."""
    names = "abcde"[:dice.randrange(1, 6)]
    base = [(name, text) for text in ["round 1", "x", "round 2", "round 01"] for name in names if dice.random() < 0.8]
    founds = []
    for own in dice.sample([None, None, None, *"abcdeq"], dice.randrange(1, 7)):
        row = list(base)
        if dice.random() < 0.4:
            dice.shuffle(row)
        elif dice.random() < 0.4:
            row.reverse()
        for _ in range(dice.randrange(12) if row else 0):
            k = dice.randrange(len(row))
            row[k - 1], row[k] = row[k], row[k - 1]
        row = [line for line in row if dice.random() < 0.97]
        founds.append((own, row if dice.random() < 0.7 else tuple(row)))
    return founds


def slow_names_between(founds, i, j, text):
    """The names between two readers as the words of point 162 tell them, by all rows of names."""
    rows = [[line for line in founds[k][1] if line[1] == text] for k in (i, j)]
    both = [line for line in rows[0] if line in rows[1]]
    arrows = {(a[0], b[0]) for a, b in permutations(both, 2) if rows[0].index(a) < rows[0].index(b) and rows[1].index(b) < rows[1].index(a)}
    all_rows = [[name] for name in {name for pair in arrows for name in pair}]
    longest = []
    while all_rows:
        longest = all_rows
        all_rows = [[*row, b] for row in all_rows for a, b in arrows if a == row[-1]]
    if not longest:
        return []
    order = [line[0] for line in rows[0]]
    return [min({row[k] for row in longest}, key=order.index) for k in range(len(longest[0]))]


class TestFounds(Case):
    def test_of_round(self):
        dice = seeded(205)
        for _ in range(200):
            founds = random_rounds(dice)
            before = frozen(founds)
            for text in ["round 1", "round 2", "round 3"]:
                told = of_round(founds, text)
                self.assertEqual(told, [(own, [line for line in lines if line[1] == text]) for own, lines in founds])
                self.assertIs(is_founds(told), True)
                self.assertEqual(len(lists_in(told)), 1 + len(founds))
                self.assertEqual(len({id(row) for row in lists_in(told) + lists_in(founds)}), len(lists_in(told)) + len(lists_in(founds)))
                told[0][1].append(1)
                self.assertEqual(of_round(text=text, founds=founds)[0][1], [line for line in founds[0][1] if line[1] == text])
            self.assertEqual(frozen(founds), before)

    def test_round_map(self):
        dice = seeded(206)
        seen = {"cuts": 0, "crossed": 0}
        for _ in range(400):
            founds = random_rounds(dice)
            for text in ["round 1", "round 2"]:
                try:
                    expected = map_of(of_round(founds, text))
                except Crossed as error:
                    self.raises(Crossed, {"cross": error.cross}, round_map, founds, text)
                    self.assertIs(is_cross(of_round(founds, text), error.cross), True)
                    seen["crossed"] += 1
                    continue
                seen["cuts"] += len(expected) > 0
                self.assertEqual(round_map(text=text, founds=founds), expected)
                told = round_map(founds, text)
                told.append(1)
                self.assertEqual(round_map(founds, text), expected)
        self.assertGreater(min(seen.values()), 30, seen)
        with self.assertRaises(Crossed):
            round_map(FOUR, "round 1")
        self.assertEqual(round_map(FOUR, "round 2"), [])

    def test_other_lines_count_for_nothing(self):
        # By all lines one name is in a ring, and cuts cross; by those of the round alone not.
        ringed = [(None, [A, B, ("ann", "x"), ("ann", "y")]), (None, [B, A, ("ann", "y"), ("ann", "x")])]
        self.assertEqual(round_map(ringed, "round 1"), [((1,), 1, (("bo", "ann"),))])
        self.assertEqual(names_between(ringed, 0, 1, "round 1"), ["ann", "bo"])
        crossed = [(own, [("ann", "x") if line == A else line for line in lines]) for own, lines in FOUR]
        self.assertEqual(round_map(crossed, "round 1"), [((1, 3), 1, (("dee", "cy"),))])

    def test_told_all(self):
        dice = seeded(207)
        seen = {True: 0, False: 0}
        for _ in range(600):
            founds = random_rounds(dice)
            for text in ["round 1", "round 2"]:
                owns = [own for own, lines in founds]
                expected = None not in owns and all((own, text) in lines for own in owns for other, lines in founds)
                self.assertIs(told_all(founds, text), expected)
                seen[expected] += 1
        self.assertGreater(min(seen.values()), 40, seen)
        self.assertIs(told_all([("ann", [A])], "round 1"), True)
        self.assertIs(told_all(text="round 1", founds=[("ann", [A, B]), ("bo", (B, A, C))]), True)
        self.assertIs(told_all([("ann", [A, B]), ("bo", (B, A, C))], "round 2"), False)
        self.assertIs(told_all([("ann", [A, B]), ("bo", [B])], "round 1"), False)
        self.assertIs(told_all([("ann", [A]), (None, [A])], "round 1"), False)
        self.assertIs(told_all([(None, [])], "round 1"), False)
        self.assertIs(told_all([("ann", [("ann", "round 01")])], "round 1"), False)

    def test_names_between_by_the_words(self):
        dice = seeded(208)
        seen = {}
        for _ in range(500):
            founds = random_rounds(dice)
            if len(founds) > 1:
                before = frozen(founds)
                i, j = dice.sample(range(len(founds)), 2)
                for text in ["round 1", "round 2"]:
                    for first, second in [(i, j), (j, i)]:
                        told = names_between(founds, first, second, text)
                        self.assertEqual(told, slow_names_between(founds, first, second, text), (founds, first, second))
                        told.append(1)
                        seen[len(told) - 1] = seen.get(len(told) - 1, 0) + 1
                        self.assertEqual(len(names_between(text=text, j=second, i=first, founds=founds)), len(told) - 1)
                self.assertEqual(frozen(founds), before)
        self.assertGreater(min(seen.get(many, 0) for many in (0, 2, 3, 4)), 20, seen)

    def test_the_first_name_of_each_place(self):
        # Two names can stand first, and two last; the lines of reader i tell which ones are told.
        founds = [(None, [B, A, C, D]), (None, [D, C, A, B])]
        self.assertEqual(names_between(founds, 0, 1, "round 1"), ["bo", "ann", "cy", "dee"])
        founds = [(None, [B, A, D, C]), (None, [C, D, B, A])]
        self.assertEqual(names_between(founds, 0, 1, "round 1"), ["bo", "dee", "cy"])
        self.assertEqual(names_between(founds, 1, 0, "round 1"), ["cy", "dee", "bo"])
        founds = [(None, [A, B, C]), (None, [C, B, A, D]), (None, [])]
        self.assertEqual([names_between(founds, 0, 1, "round 1"), names_between(founds, 0, 2, "round 1")], [["ann", "bo", "cy"], []])

    def test_errors(self):
        calls = [of_round, round_map, told_all, lambda founds, text: names_between(founds, None, None, text)]
        texts = [value for value in any_values() if value != "round 7"] + NEARLY
        for call in calls:
            for value in any_values():
                if value not in ANY_FOUNDS:
                    self.raises(InvalidFounds, {"given": value}, call, value, None)
            for value in texts:
                self.raises(InvalidText, {"given": value}, call, FOUR, value)
        for value in any_values():
            if type(value) is not int or value not in (0, 1, 2):
                self.raises(InvalidIndex, {"given": value}, names_between, FOUR, value, [], "round 1")
            if type(value) is not int or value not in (0, 2):
                self.raises(InvalidIndex, {"given": value}, names_between, FOUR, 1, value, "round 1")
        self.raises(InvalidIndex, {"given": 4}, names_between, FOUR, 4, 0, "round 1")
        self.raises(InvalidIndex, {"given": 3}, names_between, FOUR, 3, 3, "round 1")

    def test_equal_answers(self):
        dice = seeded(209)
        for _ in range(50):
            founds = random_rounds(dice)
            other = tuple((own, tuple(lines)) for own, lines in founds)
            self.assertEqual([of_round(other, "round 1"), told_all(other, "round 1")], [of_round(founds, "round 1"), told_all(founds, "round 1")])
            if len(founds) > 1:
                self.assertEqual(names_between(other, 1, 0, "round 1"), names_between(founds, 1, 0, "round 1"))


class TestTheorems(Case):
    """The statements of points 162 and 163, on runs of `make`, `hear`, `lose` and `stop`."""

    def run_of(self, dice, seats, tree):
        """A run in which no line of the round 1 that a house on the ways wrote is lost on these ways."""
        houses, names = meets(tree, seats), house_names(tree.houses)

        def may_lose(u, v, line):
            return line[1] != "round 1" or u not in houses or v not in houses or names.index(line[0]) not in houses

        texts = ["round 1", "round 1", "round 2", "x"]
        network = round_run(dice, tree, texts, dice.randrange(20, 160), may_lose, 0.004)
        if dice.random() < 0.5:
            spread(network)
        return network

    def test_names_on_the_way(self):
        dice = seeded(210)
        seen = {"told": 0, "lost": 0, "longer": 0}
        for _ in range(700):
            tree = long_tree(dice, dice.randrange(2, 9))
            seats = dice.sample(range(tree.houses), 2)
            network = self.run_of(dice, seats, tree)
            founds = [found(network, seat, dice.randrange(len(network.log(seat)) // 2, len(network.log(seat)) + 1)) for seat in seats]
            names = [network.names[house] for house in way(tree, *seats)]
            ends = [(name, "round 1") for name in (names[0], names[-1])]
            if all(line in lines for line in ends for own, lines in founds):
                seen["told"] += 1
                seen["lost"] += any(deed[0] == "lose" for deed in network.script)
                seen["longer"] += len(names) > 3
                self.assertEqual(names_between(founds, 0, 1, "round 1"), names)
                self.assertEqual(names_between(founds, 1, 0, "round 1"), names[::-1])
                self.assertIs(told_all(founds, "round 1"), True)
        self.assertGreater(min(seen.values()), 30, seen)

    def test_the_round_map_is_the_true_map(self):
        dice = seeded(211)
        seen = {"told": 0, "lost": 0, "stopped": 0, "three": 0}
        for _ in range(500):
            tree = random_tree(dice, dice.randrange(1, 9))
            seats = dice.sample(range(tree.houses), dice.randrange(1, min(tree.houses, 5) + 1))
            network = self.run_of(dice, seats, tree)
            founds = [found(network, seat, dice.randrange(len(network.log(seat)) * 2 // 3, len(network.log(seat)) + 1)) for seat in seats]
            if told_all(founds, "round 1"):
                seen["told"] += 1
                seen["lost"] += any(deed[0] == "lose" for deed in network.script)
                seen["stopped"] += len(network.stopped) > 0
                seen["three"] += len(seats) > 2
                true = [(lot, roads) for lot, roads, arrows in true_map(tree, network.names, seats)]
                self.assertEqual([(lot, roads) for lot, roads, arrows in round_map(founds, "round 1")], true)
        self.assertGreater(min(seen.values()), 25, seen)

    def test_a_loss_on_the_way_hides_a_house(self):
        network = Network(path(3), NAMES)
        for house in range(3):
            network.make(house, "round 1")
        network.lose(1, 2)
        spread(network)
        founds = [found(network, house, len(network.log(house))) for house in (0, 2)]
        self.assertIs(told_all(founds, "round 1"), True)
        self.assertEqual(names_between(founds, 0, 1, "round 1"), ["ann", "cy"])

    def test_large(self):
        dice = seeded(212)
        tree = Tree(40, path(40).roads)
        network = Network(tree, house_names(40))
        network.make(17, "round 5")
        spread(network)
        seats = [39, *dice.sample(range(39), 11)]
        founds = [found(network, seat, 40) for seat in seats]
        true = [(lot, roads) for lot, roads, arrows in true_map(tree, network.names, seats)]
        self.assertEqual([cut[:2] for cut in round_map(founds, "round 5")], true)
        for j in range(1, 12):
            self.assertEqual(names_between(founds, 0, j, "round 5"), [network.names[house] for house in way(tree, 39, seats[j])])

    def test_random_networks_do_not_matter_here(self):
        # Lines that are no rounds leave no map of a round.
        network = random_network(seeded(213), 6, 12, 0)
        founds = [found(network, house, len(network.log(house))) for house in range(6)]
        self.assertEqual([round_map(founds, "round 1"), of_round(founds, "round 1")[2]], [[], (network.names[2], [])])
