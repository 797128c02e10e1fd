"""Points 221 and 222: watches."""

from maplost.cuts import comes_of
from maplost.desk import Desk, answer
from maplost.errors import InvalidIndex, InvalidSeats, NoLetter
from maplost.founds import goes_on
from maplost.networks import Network, finish
from maplost.places import map_of
from maplost.trees import Tree
from maplost.truth import true_map
from maplost.watch import Watch, gather
from tests.helpers import Case, any_values, house_names, lists_in, path, random_network, random_tree, seeded
from tests.test_networks import state

X, Y = ("ann", "x"), ("bo", "y")


def pair():
    """A network of two houses with a line each, and a watch over it."""
    network = Network(path(2), ["ann", "bo"])
    network.make(0, "x")
    network.make(1, "y")
    return network, Watch(network, [0, 1])


def told(watch):
    return [watch.letters, watch.founds(), watch.map()]


def step(dice, network, made, most):
    """One more deed of a network at random."""
    live = [house for house in range(len(network.tree)) if house not in network.stopped]
    roads = [road for u, v in network.tree.roads for road in [(u, v), (v, u)] if network.under_way(*road)]
    free = [(u, v) for u, v in roads if u in live and v in live]
    if live and made < most and dice.random() < 0.3:
        network.make(dice.choice(live), str(made))
        return made + 1
    if roads and dice.random() < 0.05:
        network.lose(*dice.choice(roads))
    elif free:
        network.hand(*dice.choice(free))
    if live and dice.random() < 0.005:
        network.stop(dice.choice(live))
    return made


class TestSeats(Case):
    def test_seats(self):
        network = Network(path(3), ["ann", "bo", "cy"])
        for seats, owns in [([0], ["ann"]), ((2, 0), ["cy", "ann"]), ([1, 2, 0], ["bo", "cy", "ann"])]:
            watch = Watch(seats=seats, network=network)
            self.assertEqual(told(watch), [[], [(own, []) for own in owns], []])
        twelve = Network(path(13), house_names(13))
        self.assertEqual(len(Watch(twelve, list(range(12))).founds()), 12)

    def test_invalid_seats(self):
        network = Network(path(13), house_names(13))
        wrong = [[], (), [13], [-1], [0, 0], [0, True], [False], [None], ["0"], [[0]], list(range(13)), {0: 1}, "0", 0, None, [0, 13]]
        for value in wrong + [value for value in any_values() if value != (0, 1) or type(value[0]) is bool]:
            self.raises(InvalidSeats, {"given": value}, Watch, network, value)

    def test_the_passed_list_may_change(self):
        network, _ = pair()
        seats = [1, 0]
        watch = Watch(network, seats)
        seats.clear()
        watch.ask(0)
        watch.bring(0)
        self.assertEqual([watch.letters, watch.founds()], [[("tell", 0, 0, (Y,))], [("bo", []), ("ann", [])]])


class TestLetters(Case):
    def test_ask(self):
        network, watch = pair()
        self.assertEqual([watch.ask(1), watch.ask(reader=0), watch.ask(1)], [None] * 3)
        self.assertEqual(watch.letters, [("ask", 1, 0), ("ask", 0, 0), ("ask", 1, 0)])
        watch.bring(0)
        watch.bring(2)
        watch.ask(1)
        self.assertEqual(watch.letters, [("ask", 0, 0), ("ask", 1, 0), ("ask", 1, 1)])
        for value in any_values():
            if type(value) is not int or value not in (0, 1):
                self.raises(InvalidIndex, {"given": value}, watch.ask, value)
        for value in [2, -1, True, False]:
            self.raises(InvalidIndex, {"given": value}, watch.ask, value)
        self.assertEqual(len(watch.letters), 3)

    def test_letters_in_the_order_in_which_they_were_sent(self):
        network, watch = pair()
        for reader in [0, 1, 0]:
            watch.ask(reader)
        self.assertIs(watch.bring(k=1), None)
        self.assertEqual(watch.letters, [("ask", 0, 0), ("ask", 0, 0), ("tell", 1, 0, (Y,))])
        self.assertIs(watch.double(k=2), None)
        self.assertIs(watch.double(0), None)
        self.assertEqual(watch.letters, [("ask", 0, 0), ("ask", 0, 0), ("tell", 1, 0, (Y,)), ("tell", 1, 0, (Y,)), ("ask", 0, 0)])
        self.assertIs(watch.drop(k=1), None)
        watch.bring(1)
        self.assertEqual(watch.letters, [("ask", 0, 0), ("tell", 1, 0, (Y,)), ("ask", 0, 0)])
        self.assertEqual(watch.founds(), [("ann", []), ("bo", [Y])])
        watch.bring(2)
        self.assertEqual(watch.letters, [("ask", 0, 0), ("tell", 1, 0, (Y,)), ("tell", 0, 0, (X,))])

    def test_drop_delivers_nothing(self):
        network, watch = pair()
        watch.ask(0)
        watch.drop(0)
        self.assertEqual(told(watch), [[], [("ann", []), ("bo", [])], []])
        watch.ask(0)
        watch.bring(0)
        watch.drop(0)
        self.assertEqual(told(watch), [[], [("ann", []), ("bo", [])], []])

    def test_what_a_letter_has_stays(self):
        network, watch = pair()
        watch.ask(1)
        watch.ask(1)
        watch.bring(0)
        network.hand(0, 1)
        # The first answer was written before the line came, the second one behind it.
        self.assertEqual(watch.letters, [("ask", 1, 0), ("tell", 1, 0, (Y,))])
        watch.bring(0)
        self.assertEqual(watch.letters, [("tell", 1, 0, (Y,)), ("tell", 1, 0, (Y, X))])
        network.make(1, "z")
        self.assertEqual(watch.letters, [("tell", 1, 0, (Y,)), ("tell", 1, 0, (Y, X))])
        watch.bring(1)
        self.assertEqual(watch.founds()[1], ("bo", [Y, X]))
        watch.bring(0)
        self.assertEqual([watch.founds()[1], watch.letters], [("bo", [Y, X]), []])

    def test_answers_that_are_empty_or_too_far(self):
        network = Network(path(2), ["ann", "bo"])
        watch = Watch(network, [0, 1])
        watch.ask(0)
        watch.bring(0)
        self.assertEqual(watch.letters, [("tell", 0, 0, ())])
        watch.bring(0)
        network.make(0, "x")
        watch.ask(0)
        watch.double(0)
        watch.bring(0)
        watch.bring(1)
        self.assertEqual(watch.letters, [("ask", 0, 0)])
        network.make(0, "y")
        watch.ask(0)
        watch.bring(1)
        self.assertEqual(watch.letters, [("ask", 0, 0), ("tell", 0, 1, (("ann", "y"),))])
        watch.bring(0)
        watch.bring(1)
        self.assertEqual(watch.founds()[0], ("ann", [X, ("ann", "y")]))
        watch.bring(0)
        self.assertEqual([watch.founds()[0], watch.letters], [("ann", [X, ("ann", "y")]), []])

    def test_stopped_houses_do_not_answer(self):
        network, watch = pair()
        for reader in [0, 1, 0]:
            watch.ask(reader)
        watch.bring(0)
        network.stop(0)
        watch.bring(1)
        self.assertEqual(watch.letters, [("ask", 1, 0), ("tell", 0, 0, (X,))])
        # What it has answered comes all the same.
        watch.bring(1)
        self.assertEqual(watch.founds(), [("ann", [X]), ("bo", [])])
        watch.ask(0)
        watch.double(1)
        watch.bring(1)
        watch.bring(1)
        self.assertEqual([watch.letters, network.stopped], [[("ask", 1, 0)], (0,)])

    def test_no_letter(self):
        network, watch = pair()
        for call in [watch.bring, watch.drop, watch.double]:
            for value in [*any_values(), 0, -1]:
                self.raises(NoLetter, {"k": value}, call, value)
        watch.ask(0)
        watch.ask(1)
        before, deeds = told(watch), state(network)
        for call in [watch.bring, watch.drop, watch.double]:
            for value in [*any_values(), 2, -1, -2, True, False]:
                if type(value) is not int or value not in (0, 1):
                    self.raises(NoLetter, {"k": value}, call, value)
        self.assertEqual([told(watch), state(network)], [before, deeds])

    def test_new_lists(self):
        network, watch = pair()
        gather(watch)
        watch.ask(0)
        watch.bring(0)
        for call in [lambda: watch.letters, watch.founds, watch.map]:
            first, second = call(), call()
            self.assertEqual(first, second)
            self.assertEqual(len({id(row) for row in lists_in([first, second])}), len(lists_in([first, second])))
            first.append(1)
            self.assertEqual(call(), second)
        watch.founds()[0][1].append(1)
        self.assertEqual(watch.founds(), [("ann", [X]), ("bo", [Y])])
        self.assertEqual([type(watch.letters), type(watch.letters[0]), type(watch.letters[0][3])], [list, tuple, tuple])


class Plain:
    """A watch as the words of point 221 tell it, with a desk of its own."""

    def __init__(self, network, seats):
        self.network, self.seats, self.letters = network, seats, []
        self.desk = Desk([network.names[seat] for seat in seats])

    def ask(self, reader):
        self.letters.append(("ask", reader, len(self.desk.founds()[reader][1])))

    def bring(self, k):
        letter = self.letters.pop(k)
        house = self.seats[letter[1]]
        if letter[0] == "tell":
            self.desk.come(*letter[1:])
        elif house not in self.network.stopped:
            self.letters.append(("tell", *letter[1:], tuple(answer(self.network, house, letter[2], most=1000))))

    def drop(self, k):
        self.letters.pop(k)

    def double(self, k):
        self.letters.append(self.letters[k])


class TestAtEachMoment(Case):
    def test_letters_in_any_order(self):
        """Point 222 at each moment of runs in which letters are brought in any order, dropped and doubled."""
        dice = seeded(291)
        seen = {"cuts": 0, "grown": 0, "stopped": 0, "roads": 0}
        for _ in range(60):
            tree = random_tree(dice, dice.randrange(2, 8))
            network, made = Network(tree, house_names(tree.houses)), 0
            seats = dice.sample(range(tree.houses), dice.randrange(2, min(tree.houses, 5) + 1))
            true = true_map(tree, network.names, seats)
            watch, plain = Watch(network, seats), Plain(network, seats)
            elder, elder_founds = [], watch.founds()
            for _ in range(120):
                made = step(dice, network, made, 20)
                before = state(network)
                word = dice.choice(["ask", "bring", "bring", "bring", "drop", "double"])
                if word == "ask" or not watch.letters:
                    reader = dice.randrange(len(seats))
                    watch.ask(reader)
                    plain.ask(reader)
                elif word != "drop" or dice.random() < 0.3:
                    k = dice.randrange(len(watch.letters))
                    getattr(watch, word)(k)
                    getattr(plain, word)(k)
                self.assertEqual(watch.letters, plain.letters)
                self.assertEqual(watch.founds(), plain.desk.founds())
                drawn = watch.map()
                self.assertEqual(drawn, map_of(watch.founds()))
                self.assertIs(comes_of(drawn, true, len(seats)), True)
                self.assertIs(comes_of(elder, drawn, len(seats)), True)
                self.assertIs(goes_on(elder_founds, watch.founds()), True)
                for (own, lines), seat in zip(watch.founds(), seats):
                    self.assertEqual([own, tuple(lines)], [network.names[seat], network.log(seat)[:len(lines)]])
                self.assertEqual(state(network), before)
                seen["grown"] += len(drawn) > len(elder)
                elder, elder_founds = drawn, watch.founds()
            seen["cuts"] += len(elder) > 0
            seen["roads"] += any(roads > 1 for lot, roads, arrows in elder)
            seen["stopped"] += len(network.stopped) > 0
        self.assertGreater(min(seen.values()), 3, seen)


class TestGather(Case):
    def test_gather(self):
        dice = seeded(292)
        stopped = 0
        for _ in range(80):
            network = random_network(dice, dice.randrange(1, 9), 14, dice.choice([0, 0.1]))
            seats = dice.sample(range(len(network.tree)), dice.randrange(1, min(len(network.tree), 6) + 1))
            watch = Watch(network, seats)
            # Letters under way, and lines that have come before.
            for _ in range(dice.randrange(12)):
                watch.ask(dice.randrange(len(seats)))
                if dice.random() < 0.7:
                    watch.bring(dice.randrange(len(watch.letters)))
                if watch.letters and dice.random() < 0.3:
                    watch.double(dice.randrange(len(watch.letters)))
            if dice.random() < 0.3:
                finish(network)
            live = [house for house in range(len(network.tree)) if house not in network.stopped]
            if live and dice.random() < 0.3:
                network.stop(dice.choice(live))
            before, deeds = watch.founds(), state(network)
            letters = watch.letters
            many = gather(watch=watch)
            self.assertEqual(many, sum(len(lines) for own, lines in watch.founds()) - sum(len(lines) for own, lines in before))
            self.assertEqual([watch.letters, state(network)], [[], deeds])
            self.assertIs(goes_on(before, watch.founds()), True)
            for k, seat in enumerate(seats):
                if seat not in network.stopped:
                    self.assertEqual(tuple(watch.founds()[k][1]), network.log(seat))
                elif not [letter for letter in letters if letter[:2] == ("tell", k)]:
                    self.assertEqual(watch.founds()[k], before[k])
                    stopped += 1
            self.assertEqual(gather(watch), 0)
        self.assertGreater(stopped, 5)

    def test_edges(self):
        network, watch = pair()
        self.assertEqual([gather(watch), gather(watch), watch.founds()], [2, 0, [("ann", [X]), ("bo", [Y])]])
        finish(network)
        self.assertEqual([gather(watch), watch.map()], [2, [((1,), 1, (("bo", "ann"),))]])
        network.stop(0)
        network.stop(1)
        self.assertEqual([gather(watch), watch.map()], [0, [((1,), 1, (("bo", "ann"),))]])

    def test_letters_under_way_are_brought_first(self):
        network, watch = pair()
        watch.ask(0)
        watch.bring(0)
        network.hand(1, 0)
        network.stop(0)
        # The answer from before the house stopped still comes, and nothing more from it.
        self.assertEqual([gather(watch), watch.founds()], [2, [("ann", [X]), ("bo", [Y])]])

    def test_largest(self):
        dice = seeded(293)
        network = random_network(dice, 64, 40, 0)
        finish(network)
        watch = Watch(network, dice.sample(range(64), 12))
        for k in range(180):
            watch.ask(k % 12)
        many = gather(watch)
        self.assertEqual(many, sum(len(lines) for own, lines in watch.founds()))
        for own, lines in watch.founds():
            if network.names.index(own) not in network.stopped:
                self.assertEqual(tuple(lines), network.log(network.names.index(own)))


class TestTwoWatches(Case):
    def test_over_one_network(self):
        network, first = pair()
        second = Watch(network, [1])
        first.ask(1)
        second.ask(0)
        first.bring(0)
        self.assertEqual([first.letters, second.letters], [[("tell", 1, 0, (Y,))], [("ask", 0, 0)]])
        network.hand(0, 1)
        second.bring(0)
        self.assertEqual([first.letters, second.letters], [[("tell", 1, 0, (Y,))], [("tell", 0, 0, (Y, X))]])
        second.bring(0)
        self.assertEqual([first.founds(), second.founds()], [[("ann", []), ("bo", [])], [("bo", [Y, X])]])
        self.assertEqual([gather(first), gather(second)], [3, 0])

    def test_the_very_network(self):
        network, watch = pair()
        other = Network(network.tree, network.names)
        other_watch = Watch(other, [0, 1])
        self.assertEqual([gather(watch), gather(other_watch)], [2, 0])
        other.make(0, "q")
        self.assertEqual([gather(watch), gather(other_watch)], [0, 1])
        star = Network(Tree(3, [(0, 1), (0, 2)]), ["a", "b", "c"])
        third = Watch(star, [2, 1])
        star.make(1, "1")
        self.assertEqual([gather(third), third.founds()], [1, [("c", []), ("b", [("b", "1")])]])
