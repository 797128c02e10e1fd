"""Points 41 to 45: networks, deeds and scripts."""

from maplost.errors import (
    InvalidHouse, InvalidNames, InvalidScript, InvalidText, LostError, NotARoad, NothingUnderWay, Refused, Stopped, Twice,
)
from maplost.networks import Network, finish, is_script, run_network
from maplost.trees import Tree, side
from tests.helpers import Case, any_values, house_names, path, random_network, random_tree, seeded

NAMES = ["ann", "bo", "cy"]


def small():
    return Network(path(3), NAMES)


class Plain:
    """A network as point 5 tells it, word by word."""

    def __init__(self, tree, names):
        self.tree, self.names = tree, names
        self.logs = [[] for _ in names]
        self.gone = []
        self.stopped = []

    def waiting(self, u, v):
        near = [self.names[house] for house in side(self.tree, u, v)]
        return [line for line in self.logs[u] if line[0] in near and (u, v, line) not in self.gone]

    def do(self, deed):
        """Whether the deed can be done; it is done then."""
        if deed[0] == "stop":
            if deed[1] in self.stopped:
                return False
            self.stopped.append(deed[1])
            return True
        if deed[0] == "make":
            line = (self.names[deed[1]], deed[2])
            if deed[1] in self.stopped or line in self.logs[deed[1]]:
                return False
            self.logs[deed[1]].append(line)
            return True
        u, v = deed[1:]
        if not self.waiting(u, v) or deed[0] == "hand" and (u in self.stopped or v in self.stopped):
            return False
        line = self.waiting(u, v)[0]
        self.gone.append((u, v, line))
        if deed[0] == "hand":
            self.logs[v].append(line)
        return True


def state(network):
    roads = [road for u, v in network.tree.roads for road in [(u, v), (v, u)]]
    logs = [network.log(house) for house in range(len(network.tree))]
    return [logs, [network.under_way(u, v) for u, v in roads], network.stopped, network.script]


class TestNames(Case):
    def test_attributes(self):
        tree = path(3)
        names = ["ann", "bo", "cy"]
        network = Network(names=names, tree=tree)
        names[0] = "x"
        self.assertTrue(network.tree == tree)
        self.assertEqual(network.names, ("ann", "bo", "cy"))
        self.assertEqual([network.script, network.stopped, network.log(0), network.under_way(0, 1)], [(), (), (), ()])
        self.assertEqual(Network(tree, ("ann", "bo", "cy")).names, ("ann", "bo", "cy"))
        self.assertEqual(len(Network(path(64), house_names(64)).names), 64)
        self.assertEqual(Network(Tree(1, []), ["a"]).names, ("a",))

    def test_invalid_names(self):
        wrong = [[], ["ann", "bo"], ["ann", "bo", "cy", "dee"], ["ann", "bo", "ann"], ["ann", "bo", "Cy"], ["ann", "bo", ""],
                 ["ann", "bo", None], ["ann", "bo", ["cy"]], ["ann", "bo", "abcdefghi"], "abc", {"a": 1, "b": 1, "c": 1}]
        for names in wrong:
            self.raises(InvalidNames, {"given": names}, Network, path(3), names)
            self.raises(InvalidNames, {"given": names}, run_network, path(3), names)
            self.raises(InvalidNames, {"given": names}, run_network, path(3), names, None)
        for value in any_values():
            self.raises(InvalidNames, {"given": value}, Network, path(3), value)


class TestDeeds(Case):
    def test_make(self):
        network = small()
        self.assertEqual(network.make(0, ""), ("ann", ""))
        self.assertEqual(network.make(text="x" * 40, house=0), ("ann", "x" * 40))
        self.assertEqual(network.make(1, ""), ("bo", ""))
        self.assertEqual(network.log(0), (("ann", ""), ("ann", "x" * 40)))
        self.assertEqual([network.under_way(1, 0), network.under_way(1, 2)], [(("bo", ""),)] * 2)
        self.assertEqual(network.under_way(2, 1), ())

    def test_make_errors(self):
        network = small()
        network.make(0, "x")
        network.stop(0)
        network.stop(1)
        before = state(network)
        self.raises(InvalidHouse, {"given": 3}, network.make, 3, None)
        self.raises(InvalidText, {"given": "x" * 41}, network.make, 0, "x" * 41)
        self.raises(Stopped, {"house": 0}, network.make, 0, "x")
        for value in any_values():
            if type(value) is not int or value not in (0, 1, 2):
                self.raises(InvalidHouse, {"given": value}, network.make, value, value)
            if type(value) is not str or value in ("\n", "\t") or len(value) > 40:
                self.raises(InvalidText, {"given": value}, network.make, 1, value)
        self.assertEqual(state(network), before)

    def test_twice(self):
        network = small()
        network.make(0, "x")
        before = state(network)
        self.raises(Twice, {"house": 0, "text": "x"}, network.make, 0, "x")
        self.assertEqual(state(network), before)

    def test_hand_and_lose(self):
        network = small()
        for text in "abc":
            network.make(0, text)
        self.assertEqual(network.hand(0, 1), ("ann", "a"))
        self.assertEqual(network.lose(u=0, v=1), ("ann", "b"))
        self.assertEqual(network.hand(v=1, u=0), ("ann", "c"))
        self.assertEqual(network.log(1), (("ann", "a"), ("ann", "c")))
        self.assertEqual(network.under_way(1, 2), (("ann", "a"), ("ann", "c")))
        self.assertEqual([network.under_way(1, 0), network.under_way(0, 1)], [(), ()])
        self.assertEqual(network.script[3:], (("hand", 0, 1), ("lose", 0, 1), ("hand", 0, 1)))

    def test_road_errors(self):
        network = small()
        network.make(0, "x")
        before = state(network)
        for call in [network.hand, network.lose, network.under_way]:
            for value in any_values():
                if type(value) is not int or value not in (0, 1, 2):
                    self.raises(InvalidHouse, {"given": value}, call, value, [])
                    self.raises(InvalidHouse, {"given": value}, call, 2, value)
            self.raises(NotARoad, {"u": 0, "v": 2}, call, 0, 2)
            self.raises(NotARoad, {"u": 1, "v": 1}, call, 1, 1)
        for call in [network.hand, network.lose]:
            self.raises(NothingUnderWay, {"u": 1, "v": 0}, call, 1, 0)
            self.raises(NothingUnderWay, {"u": 1, "v": 2}, call, 1, 2)
        self.assertEqual(state(network), before)

    def test_stopped(self):
        network = small()
        network.make(0, "x")
        network.make(1, "y")
        self.assertIs(network.stop(house=1), None)
        before = state(network)
        self.raises(Stopped, {"house": 1}, network.hand, 0, 1)
        self.raises(Stopped, {"house": 1}, network.hand, 1, 0)
        self.raises(Stopped, {"house": 1}, network.hand, 2, 1)
        self.raises(Stopped, {"house": 1}, network.stop, 1)
        self.raises(NothingUnderWay, {"u": 2, "v": 1}, network.lose, 2, 1)
        self.assertEqual(state(network), before)
        network.stop(0)
        self.raises(Stopped, {"house": 0}, network.hand, 0, 1)
        self.raises(Stopped, {"house": 1}, network.hand, 1, 0)
        self.raises(NotARoad, {"u": 0, "v": 2}, network.hand, 0, 2)
        self.assertEqual(network.stopped, (0, 1))
        self.assertEqual([network.under_way(0, 1), network.under_way(1, 0)], [(("ann", "x"),), (("bo", "y"),)])
        self.assertEqual([network.lose(0, 1), network.lose(1, 0)], [("ann", "x"), ("bo", "y")])
        self.assertEqual(network.script[-2:], (("lose", 0, 1), ("lose", 1, 0)))

    def test_stop_and_log_of_no_house(self):
        network = small()
        for value in any_values():
            if type(value) is not int or value not in (0, 1, 2):
                self.raises(InvalidHouse, {"given": value}, network.stop, value)
                self.raises(InvalidHouse, {"given": value}, network.log, value)
        self.assertEqual(network.log(house=2), ())
        self.assertEqual(network.under_way(v=1, u=2), ())

    def test_as_the_plain_model(self):
        dice = seeded(7)
        for _ in range(60):
            houses = dice.randrange(1, 6)
            tree = random_tree(dice, houses)
            network, plain = Network(tree, house_names(houses)), Plain(tree, house_names(houses))
            for _ in range(60):
                word = dice.choice(["make", "hand", "hand", "hand", "lose", "stop"])
                deed = (word, dice.randrange(houses), dice.choice("xyz"))
                if word in ("hand", "lose"):
                    if houses == 1:
                        continue
                    deed = (word, *dice.sample(dice.choice(tree.roads), 2))
                if word == "stop":
                    if dice.random() < 0.9:
                        continue
                    deed = deed[:2]
                done = len(network.script)
                if plain.do(deed):
                    getattr(network, word)(*deed[1:])
                    self.assertEqual(network.script[done:], (deed,))
                else:
                    with self.assertRaises(LostError):
                        getattr(network, word)(*deed[1:])
                    self.assertEqual(len(network.script), done)
                self.assertEqual([list(network.log(house)) for house in range(houses)], plain.logs)
                self.assertEqual(network.stopped, tuple(sorted(plain.stopped)))
                for u, v in tree.roads:
                    self.assertEqual(list(network.under_way(u, v)), plain.waiting(u, v))
                    self.assertEqual(list(network.under_way(v, u)), plain.waiting(v, u))


class TestScripts(Case):
    def test_scripts(self):
        tree = path(3)
        right = [[], (), [("make", 0, "")], (("make", 2, "x" * 40),), [("hand", 0, 1)], [("hand", 1, 0)], [("lose", 2, 1)],
                 [("stop", 2)], [("stop", 1), ("stop", 1), ("hand", 0, 1)], [("stop", 0)] * 2700]
        for script in right:
            self.assertIs(is_script(tree, script), True)
        wrong = [[["stop", 0]], [("stop", 3)], [("stop", True)], [("stop",)], [("stop", 0, 0)], [("halt", 0)], [()],
                 [("make", 0)], [("make", 0, "x" * 41)], [("make", 3, "x")], [("make", False, "x")], [("make", 0, None)],
                 [("make", 0, "x", "y")], [("hand", 0, 2)], [("hand", 0, 0)], [("hand", 0, True)], [("hand", True, 0)],
                 [("hand", 0)], [("hand", 0, 1, 2)], [("hand", -1, 0)], [("lose", 0, 2)], [["lose", 0, 1]], [("lose", 2, 3)],
                 [("stop", 0), None], [("stop", 0)] * 2701, "stop", {"stop": 0}, ("stop", 0), [("under_way", 0, 1)],
                 [(None, 0)], [("stop", [0])], [("hand", (0,), 1)]]
        for script in wrong:
            self.assertIs(is_script(tree, script), False, script[:3] if type(script) is list else script)
            self.raises(InvalidScript, {"given": script}, run_network, tree, NAMES, script)
        self.assertIs(is_script(value=[], tree=tree), True)

    def test_any_value(self):
        scripts = [(), [], [("make", 0, "x")]]
        self.is_bool_for_all(lambda value: is_script(path(2), value), lambda value: value in scripts)

    def test_run_network(self):
        script = [("make", 0, "x"), ("hand", 0, 1), ("lose", 1, 2), ("stop", 2)]
        for given in [script, tuple(script)]:
            network = run_network(script=given, names=NAMES, tree=path(3))
            self.assertEqual(network.script, tuple(script))
            self.assertEqual([network.log(1), network.log(2), network.stopped], [(("ann", "x"),), (), (2,)])
        self.assertEqual(run_network(path(3), NAMES).script, ())

    def test_refused(self):
        for at, script in [(0, [("hand", 0, 1)]), (1, [("make", 0, "x"), ("make", 0, "x"), ("hand", 2, 1)]),
                           (2, [("stop", 0), ("make", 1, "x"), ("hand", 1, 0)]), (1, [("stop", 0), ("stop", 0)]),
                           (1, [("stop", 0), ("make", 0, "x")]), (0, [("lose", 1, 2)])]:
            self.raises(Refused, {"at": at}, run_network, path(3), NAMES, script)
        broken = [("hand", 0, 1), None]
        self.raises(InvalidScript, {"given": broken}, run_network, path(3), NAMES, broken)

    def test_again(self):
        dice = seeded(8)
        for _ in range(30):
            network = random_network(dice, dice.randrange(1, 7), 8, 0.2)
            again = run_network(network.tree, network.names, network.script)
            self.assertEqual(state(again), state(network))

    def test_longest_scripts(self):
        tree = path(64)
        script = [("make", 0, str(k)) for k in range(40)]
        script += [("hand", house, house + 1) for house in range(63) for _ in range(40)]
        script += [("stop", house) for house in range(64)]
        network = run_network(tree, house_names(64), script)
        self.assertEqual(len(network.log(63)), 40)
        self.assertEqual(len(network.stopped), 64)


class TestFinish(Case):
    def test_ended(self):
        dice = seeded(9)
        for _ in range(40):
            houses = dice.randrange(1, 8)
            network = random_network(dice, houses, 10, 0)
            halted = network.stopped
            self.assertIs(finish(network=network), None)
            for u, v in network.tree.roads:
                for road in [(u, v), (v, u)]:
                    if u not in halted and v not in halted:
                        self.assertEqual(network.under_way(*road), ())
            if not halted:
                logs = [sorted(network.log(house)) for house in range(houses)]
                self.assertEqual(logs, [logs[0]] * houses)

    def test_only_hands(self):
        network = run_network(path(3), NAMES, [("make", 0, "x"), ("make", 2, "y"), ("lose", 2, 1), ("stop", 2)])
        done = len(network.script)
        finish(network)
        self.assertEqual(network.script[done:], (("hand", 0, 1),))
        self.assertEqual(network.under_way(1, 2), (("ann", "x"),))

    def test_largest(self):
        for tree in [path(64), Tree(64, [(0, k) for k in range(1, 64)])]:
            network = Network(tree, house_names(64))
            for k in range(40):
                network.make((k * 37) % 64, str(k))
            finish(network)
            self.assertEqual(len(network.script), 40 + 40 * 63)
            self.assertTrue(is_script(tree, network.script))
