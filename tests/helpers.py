"""What several tests use: values of all kinds, a case with a check of errors, random trees, networks and founds."""

import random
import unittest

from maplost.desk import Desk
from maplost.errors import InvalidText, LostError, NotRight
from maplost.founds import found
from maplost.networks import Network, both_ways
from maplost.rounds import hear
from maplost.trees import Tree
from maplost.watch import Watch


def deep(value):
    """A value that is nested eight deep."""
    for k in range(8):
        value = [[value], (value,), {"a": value}][k % 3]
    return value


def any_values():
    """Values of all kinds that callers can pass."""
    tree = Tree(2, [(0, 1)])
    values = [
        None, True, False, 0, 1, 2, -1, 64, 65, 10 ** 19, -(10 ** 19), "", "a", "ann", "Ann", "ann x", "round 7",
        "2: 0-1", "\n", "\t", "x" * 60000, (), [], {}, ("ann", "x"), ["ann", "x"], ("ann", 1), ("ann", None), (0, 1),
        [(0, 1)], [[0, 1]], ((0, 1),), (True, False), [("ann", [])], [(None, [])], [[None, []]], ((None, ()),),
        [(None, [("ann", "x")])], [("ann", [["ann", "x"]])], {"ann": "x"}, [("make", 0, "x")], ("make", 0, "x"),
        ((0,), (1,)), ((1,), (0,)), ([0], [1]), (((0,), (1,)),), tree, [tree], (tree, ["a", "b"], (0, 1), []),
        Network(tree, ["ann", "bo"]), LostError("x"), InvalidText(3), NotRight((0, 1), ()), [[]], [[], []],
        deep("ann"), deep(None), deep(tree), [None] * 3000, ("a",) * 3000, Desk(["ann"]), Watch(Network(tree, ["ann", "bo"]), [0]),
    ]
    return values


class Case(unittest.TestCase):
    def raises(self, kind, attributes, call, *given, **named):
        """The call raises an error of just this class, with these very objects as its attributes."""
        with self.assertRaises(LostError) as caught:
            call(*given, **named)
        error = caught.exception
        self.assertIs(type(error), kind)
        self.assertEqual(list(vars(error)), list(attributes))
        for name, value in attributes.items():
            self.assertIs(type(getattr(error, name)), type(value))
            if type(value) in (list, dict) or type(value).__module__ != "builtins":
                self.assertIs(getattr(error, name), value)
            else:
                self.assertEqual(getattr(error, name), value)

    def is_bool_for_all(self, judge, expected):
        """The judge tells a bool for values of all kinds, True just for those that `expected` tells."""
        for value in any_values():
            told = judge(value)
            self.assertIs(type(told), bool)
            self.assertEqual(told, expected(value), value if len(repr(value)) < 200 else type(value))


def lists_in(value):
    """All lists at any depth within a value, each as often as it stands there."""
    found_lists = [value] if isinstance(value, list) else []
    if isinstance(value, (list, tuple)):
        for item in value:
            found_lists.extend(lists_in(item))
    return found_lists


def frozen(value):
    """The value with tuples in the place of lists, to compare it before and after a call."""
    return tuple(frozen(item) for item in value) if isinstance(value, (list, tuple)) else value


def random_tree(dice, houses):
    return Tree(houses, sorted((dice.randrange(k), k) for k in range(1, houses)))


def long_tree(dice, houses):
    """A tree at random with long ways."""
    return Tree(houses, sorted((dice.randrange(max(0, k - 3), k), k) for k in range(1, houses)))


def path(houses):
    return Tree(houses, [(k, k + 1) for k in range(houses - 1)])


def house_names(houses):
    """As many different names, in no plain order."""
    letters = "qwertyuiopasdfghjklzxcvbnm"
    return [letters[k % 26] + "xyz"[k // 26] for k in range(houses)]


def random_network(dice, houses, lines, loss):
    """A network that has run at random for a while."""
    tree = random_tree(dice, houses)
    network = Network(tree, house_names(houses))
    made = 0
    for _ in range(dice.randrange(20 * lines + 1)):
        live = [house for house in range(houses) if house not in network.stopped]
        roads = [road for road in both_ways(tree) if network.under_way(*road)]
        free = [(u, v) for u, v in roads if u in live and v in live]
        if made < lines and live and (not roads or dice.random() < 0.3):
            network.make(dice.choice(live), str(made))
            made += 1
        elif roads and dice.random() < loss:
            network.lose(*dice.choice(roads))
        elif free:
            network.hand(*dice.choice(free))
        if live and dice.random() < 0.005:
            network.stop(dice.choice(live))
    return network


def ended_network(dice, houses, lines, writers=None):
    """A network that has run at random until nothing was under way."""
    tree = random_tree(dice, houses)
    network = Network(tree, house_names(houses))
    made = 0
    roads = []
    while roads or made < lines:
        if made < lines and (not roads or dice.random() < 0.3):
            network.make(dice.choice(writers or range(houses)), str(made))
            made += 1
        else:
            network.hand(*dice.choice(roads))
        roads = [road for road in both_ways(tree) if network.under_way(*road)]
    return network


def round_network(dice, tree, writers):
    """An ended network in which some houses first make a line each, and then all lines are handed on at random."""
    network = Network(tree, house_names(tree.houses))
    for house in writers:
        network.make(house, "1")
    while True:
        roads = [road for road in both_ways(tree) if network.under_way(*road)]
        if not roads:
            return network
        network.hand(*dice.choice(roads))


def round_run(dice, tree, texts, steps, may_lose, stops=0.0):
    """A network that has run at random by `make`, `hear`, `lose` and `stop`, losing just what `may_lose` lets it lose."""
    network = Network(tree, house_names(tree.houses))
    for _ in range(steps):
        live = [house for house in range(tree.houses) if house not in network.stopped]
        roads = [road for road in both_ways(tree) if network.under_way(*road)]
        free = [(u, v) for u, v in roads if u in live and v in live]
        house, text = dice.choice(live or [0]), dice.choice(texts)
        fresh = (network.names[house], text) not in network.log(house)
        if live and fresh and (not roads or dice.random() < 0.15):
            network.make(house, text)
        elif roads and dice.random() < 0.1:
            road = dice.choice(roads)
            if may_lose(*road, network.under_way(*road)[0]):
                network.lose(*road)
        elif free:
            hear(network, *dice.choice(free))
        if live and dice.random() < stops:
            network.stop(dice.choice(live))
    return network


def ends_of(tree):
    """The houses of a tree that have one neighbour at most."""
    return [house for house in range(tree.houses) if len(tree.near[house]) < 2]


def whole_founds(dice, network, seats, known=0.6):
    """The whole logs of the seats, some of them without their names where these wrote nothing."""
    founds = []
    for seat in seats:
        log = list(network.log(seat))
        own = network.names[seat]
        silent = all(line[0] != own for line in log)
        founds.append((None if silent and dice.random() > known else own, log))
    return founds


def random_found(dice, network, house, known=True):
    """What is found of a house at random, with its name unless this is not to be known."""
    own, lines = found(network, house, dice.randrange(len(network.log(house)) + 1))
    return (own if known else None, lines)


def seeded(seed):
    return random.Random(seed)
