"""Points 171 to 173: desks and answers."""

from maplost.cuts import comes_of, is_cross
from maplost.desk import Desk, answer
from maplost.errors import (
    Clash, Crossed, InvalidCount, InvalidHouse, InvalidIndex, InvalidLines, InvalidOwns, LostError, Ringed, Stopped,
)
from maplost.founds import is_founds
from maplost.networks import Network, run_network
from maplost.places import map_of
from maplost.truth import true_map
from tests.helpers import Case, any_values, deep, house_names, lists_in, path, random_network, seeded
from tests.test_networks import state

X, Y, Z, W = ("ann", "x"), ("bo", "y"), ("cy", "z"), ("dee", "")
FOUR = [[X, Y, Z, W], [X, Y, W, Z], [Y, X, Z, W], [Y, X, W, Z]]
RINGED = [[X, ("ann", "y")], [("ann", "y"), X]]
NO_COUNTS = [-1, -(10 ** 19), True, False, None, "0", [0], (0,), {}]


def told(desk):
    """All that a desk tells, but its news."""
    try:
        drawn = desk.map()
    except LostError as error:
        drawn = [type(error), vars(error)]
    return [desk.owns, desk.founds(), desk.asks(), drawn]


def desk_with(rows, owns=None):
    desk = Desk(owns or [None] * len(rows))
    for reader, row in enumerate(rows):
        desk.come(reader, 0, row)
    return desk


class TestOwns(Case):
    def test_owns(self):
        for owns in [["ann"], [None], ["ann", "bo"], ["ann", None], [None, None, None], [None] * 12, list("abcdefghijkl"), ("ann", "abcdefgh", None)]:
            desk = Desk(owns=owns)
            self.assertEqual([desk.owns, type(desk.owns)], [tuple(owns), tuple])
            self.assertEqual([desk.asks(), desk.map(), desk.founds(), desk.news()], [[0] * len(owns), [], [(own, []) for own in owns], []])

    def test_the_list_may_change(self):
        owns = ["ann", None]
        desk = Desk(owns)
        owns.append("bo")
        owns[0] = "cy"
        self.assertEqual([desk.owns, desk.founds()], [("ann", None), [("ann", []), (None, [])]])

    def test_invalid_owns(self):
        wrong = [[], (), list("abcdefghijklm"), [None] * 13, ["ann", "ann"], ["ann", None, "ann"], ["Ann"], [""], ["abcdefghi"], [1], [True], [["ann"]],
                 [("ann",)], ["ann", "bo", False], "ann", "abc", None, {"ann": 1}, 1, [{}], ["ann "]]
        fine = [("ann", "x"), ["ann", "x"], ("ann", None)]
        for value in wrong + [value for value in any_values() if value not in fine]:
            self.raises(InvalidOwns, {"given": value}, Desk, value)
        self.assertEqual([Desk(owns).owns for owns in fine], [("ann", "x"), ("ann", "x"), ("ann", None)])


class TestCome(Case):
    def test_lines_come(self):
        desk = Desk(["ann", "bo"])
        self.assertEqual([desk.come(0, 0, [X]), desk.come(0, 1, (Y, Z)), desk.come(1, 0, []), desk.come(1, 0, [Y])], [1, 2, 0, 1])
        self.assertEqual(desk.founds(), [("ann", [X, Y, Z]), ("bo", [Y])])
        self.assertEqual(desk.asks(), [3, 1])
        # Old lines and new ones in one call, old ones alone, none, and such as are yet too far.
        self.assertEqual([desk.come(lines=[Y, Z, W], start=1, reader=0), desk.come(0, 0, [X, Y]), desk.come(0, 2, []), desk.come(0, 4, [])], [1, 0, 0, 0])
        self.assertEqual([desk.come(0, 5, [X]), desk.come(0, 10 ** 19, [X, X])], [0, 0])
        self.assertEqual(desk.founds(), [("ann", [X, Y, Z, W]), ("bo", [Y])])
        self.assertEqual([desk.come(1, 1, [X]), desk.asks()], [1, [4, 2]])

    def test_too_far_and_nothing_else_is_looked_at(self):
        desk = desk_with([[X, Y]])
        before = told(desk)
        # The lines clash elsewhere: they stand there already, or twice in what is passed.
        for lines in [[X], [X, X], [Z, Z], [Y, X], [Z]]:
            self.assertEqual([desk.come(0, 3, lines), desk.come(0, 99, lines)], [0, 0])
        self.assertEqual(told(desk), before)

    def test_clash(self):
        desk = desk_with([[X, Y], [Z]])
        before = told(desk)
        wrong = [(0, [Y]), (0, [X, Z]), (0, [X, Z, W]), (0, [Z, Y]), (1, [X]), (1, [Z]), (1, [Z, W]), (2, [X]), (2, [Y]), (2, [Z, X]), (2, [Z, Z]),
                 (0, [X, Y, X]), (0, [X, Y, Z, Z]), (1, [Y, X]), (1, [Y, Z, W, Z]), (0, [X, X]), (0, [("ann", "X")]), (0, [("bo", "x"), Y])]
        for start, lines in wrong:
            for given in [lines, tuple(lines)]:
                self.raises(Clash, {"reader": 0}, desk.come, 0, start, given)
        self.raises(Clash, {"reader": 1}, desk.come, 1, 0, [X])
        self.raises(Clash, {"reader": 1}, desk.come, 1, 1, [Z])
        self.assertEqual(told(desk), before)
        self.assertEqual([desk.come(1, 1, [X, Y]), desk.come(0, 2, [Z])], [2, 1])

    def test_invalid_arguments(self):
        desk = desk_with([[X, Y], [Z]])
        before = told(desk)
        for value in any_values():
            if type(value) is not int or value not in (0, 1):
                self.raises(InvalidIndex, {"given": value}, desk.come, value, None, None)
            if type(value) is not int or value < 0:
                self.raises(InvalidCount, {"given": value}, desk.come, 0, value, None)
            if value not in ([], ()):
                self.raises(InvalidLines, {"given": value}, desk.come, 0, 0, value)
                self.raises(InvalidLines, {"given": value}, desk.come, 0, 99, value)
        for value in [2, -1, True, False, 10 ** 19]:
            self.raises(InvalidIndex, {"given": value}, desk.come, value, 0, [])
        for value in NO_COUNTS:
            self.raises(InvalidCount, {"given": value}, desk.come, 1, value, [X])
        for value in [[X, list(Y)], [["ann", "x"]], [None], [X, None], X, "ann x", [("ann",)], [("ann", "x", "")], [("Ann", "x")], [("ann", "x" * 41)],
                      [("ann", "\n")], [("", "x")], {"a": X}, [X, [Y]], [("ann", 1)], deep(X)]:
            self.raises(InvalidLines, {"given": value}, desk.come, 0, 2, value)
        # Two wrong at once: the first one counts, and a wrong line ahead of a clash.
        self.raises(InvalidIndex, {"given": 2}, desk.come, 2, -1, [None])
        self.raises(InvalidCount, {"given": -1}, desk.come, 1, -1, [None])
        lines = [X, X, None]
        self.raises(InvalidLines, {"given": lines}, desk.come, 1, 0, lines)
        self.assertEqual(told(desk), before)

    def test_the_passed_list_may_change(self):
        desk, lines = Desk([None]), [X, Y]
        desk.come(0, 0, lines)
        lines.append(Z)
        lines[0] = W
        self.assertEqual([desk.founds(), lines], [[(None, [X, Y])], [W, Y, Z]])

    def test_as_a_plain_model(self):
        dice = seeded(221)
        seen = {"new": 0, "none": 0, "far": 0, "clash": 0}
        pool = [(name, text) for name in ("a", "b") for text in "xyz"]
        for _ in range(200):
            desk, logs = Desk(["a", None, "c"]), [[], [], []]
            truth = [dice.sample(pool, 6) for _ in logs]
            for _ in range(25):
                reader, start = dice.randrange(3), dice.randrange(7)
                lines = truth[reader][start:start + dice.randrange(5)]
                if dice.random() < 0.15:
                    lines = lines + [dice.choice(pool)]
                log = logs[reader]
                known = desk.founds()
                if start > len(log):
                    self.assertEqual(desk.come(reader, start, lines), 0)
                    seen["far"] += 1
                elif any(k < len(log) and log[k] != line for k, line in enumerate(lines, start)) or len(set(log[:start] + lines)) < start + len(lines) \
                        or len(set(log + lines[len(log) - start:])) < len(log + lines[len(log) - start:]):
                    self.raises(Clash, {"reader": reader}, desk.come, reader, start, lines)
                    seen["clash"] += 1
                else:
                    added = lines[len(log) - start:]
                    self.assertEqual(desk.come(reader, start, lines), len(added))
                    seen["new" if added else "none"] += 1
                    log.extend(added)
                self.assertEqual([lines for own, lines in desk.founds()], logs)
                self.assertEqual(desk.asks(), [len(log) for log in logs])
                self.assertTrue(all(later[:len(lines)] == lines for (own, lines), (_, later) in zip(known, desk.founds())))
        self.assertGreater(min(seen.values()), 100, seen)


class TestWhatADeskHas(Case):
    def test_map(self):
        dice = seeded(222)
        for _ in range(100):
            rows = [dice.sample([X, Y, Z, W], dice.randrange(2, 5)) for _ in range(dice.randrange(1, 4))]
            desk = desk_with(rows)
            founds = [(None, row) for row in rows]
            self.assertEqual(desk.founds(), founds)
            self.assertIs(is_founds(desk.founds()), True)
            try:
                self.assertEqual(desk.map(), map_of(founds))
            except (Crossed, Ringed) as error:
                self.raises(type(error), vars(error), map_of, founds)

    def test_errors_of_the_map(self):
        desk = desk_with(FOUR)
        for call in [desk.map, desk.news]:
            with self.assertRaises(Crossed) as caught:
                call()
            self.assertIs(is_cross(desk.founds(), caught.exception.cross), True)
        desk = desk_with(RINGED)
        for call in [desk.map, desk.news]:
            self.raises(Ringed, {"names": ("ann",)}, call)

    def test_news(self):
        desk = Desk([None, None, None])
        self.assertEqual(desk.news(), [])
        for reader, row in enumerate([[X, Y], [Y, X], [X, Y]]):
            desk.come(reader, 0, row)
        self.assertEqual([desk.news(), desk.news()], [[((1,), 0, 1)], []])
        # The cut has more roads, and there is a new one; then nothing is new but arrows.
        for reader, row in enumerate([[Z, W], [Z, W], [W, Z]]):
            desk.come(reader, 2, row)
        self.assertEqual([desk.news(), desk.news()], [[((2,), 0, 1)], []])
        desk = desk_with([[X, Y], [Y, X]])
        self.assertEqual(desk.news(), [((1,), 0, 1)])
        desk.come(0, 2, [Z, W])
        self.assertEqual(desk.news(), [])
        desk.come(1, 2, [W, Z])
        self.assertEqual([desk.map()[0][:2], desk.news()], [((1,), 1), []])
        self.assertEqual(len(desk.map()[0][2]), 2)

    def test_news_count_from_the_last_call(self):
        desk = Desk([None, None])
        desk.come(0, 0, [X, Y, Z, W])
        desk.come(1, 0, [Y, X])
        desk.map(), desk.asks(), desk.founds()
        self.assertEqual(desk.news(), [((1,), 0, 1)])
        desk = Desk([None, None])
        desk.come(0, 0, [X, Z, Y])
        desk.come(1, 0, [Y, Z])
        self.assertEqual(desk.news(), [((1,), 0, 1)])
        desk.come(1, 2, [X])
        self.assertEqual([desk.news(), desk.news()], [[((1,), 1, 2)], []])

    def test_news_with_an_error_change_nothing(self):
        desk = Desk([None, None])
        desk.come(0, 0, [X, Y, Z, ("cy", "")])
        desk.come(1, 0, [Y, X])
        self.assertEqual(desk.news(), [((1,), 0, 1)])
        desk.come(1, 2, [("cy", ""), Z])
        self.raises(Ringed, {"names": ("cy",)}, desk.news)
        self.raises(Ringed, {"names": ("cy",)}, desk.news)
        self.assertEqual(desk.asks(), [4, 4])

    def test_new_lists_on_each_call(self):
        desk = desk_with([[X, Y], [Y, X]], ["ann", "bo"])
        for call in [desk.founds, desk.asks, desk.map]:
            first, second = call(), call()
            self.assertEqual(first, second)
            self.assertEqual(len({id(row) for row in lists_in([first, second])}), len(lists_in([first, second])))
            first.clear()
            self.assertEqual(call(), second)
        desk.founds()[0][1].append(Z)
        self.assertEqual(desk.founds(), [("ann", [X, Y]), ("bo", [Y, X])])
        news = desk.news()
        news.append(1)
        self.assertEqual(desk.news(), [])
        self.assertEqual(len({id(row) for row in lists_in(desk.founds())}), 3)

    def test_two_desks(self):
        owns = ["ann", "bo"]
        first, second = Desk(owns), Desk(owns)
        first.come(0, 0, [X, Y])
        self.assertEqual([second.asks(), second.founds()], [[0, 0], [("ann", []), ("bo", [])]])
        second.come(0, 0, [Y])
        second.come(1, 0, [X, Y])
        first.come(1, 0, [Y, X])
        self.assertEqual([first.news(), second.news(), second.map()], [[((1,), 0, 1)], [], []])
        second.come(0, 1, [X])
        self.assertEqual([first.news(), second.news()], [[], [((1,), 0, 1)]])


class TestAnswer(Case):
    def setUp(self):
        deeds = [("make", 0, "x"), ("make", 0, "y"), ("make", 1, "m"), ("hand", 0, 1), ("hand", 1, 0)]
        self.network = run_network(path(2), ["ann", "bo"], deeds)
        self.log = [("ann", "x"), ("ann", "y"), ("bo", "m")]

    def test_answers(self):
        network, log = self.network, self.log
        for start in [0, 1, 2, 3, 4, 99, 10 ** 19]:
            self.assertEqual(answer(network, 0, start), log[start:])
            for most in [0, 1, 2, 3, 4, 40, 10 ** 19]:
                self.assertEqual(answer(network, 0, start, most=most), log[start:][:most])
                self.assertEqual(answer(most=most, start=start, house=0, network=network), log[start:][:most])
        self.assertEqual([answer(network, 0), answer(network, 0, most=2), answer(network, 1)], [log, log[:2], [("bo", "m"), ("ann", "x")]])
        told = answer(network, 0)
        told.append(1)
        self.assertEqual([answer(network, 0), type(told)], [log, list])

    def test_forty(self):
        network = Network(path(1), ["ann"])
        for k in range(45):
            network.make(0, str(k))
        log = list(network.log(0))
        self.assertEqual([answer(network, 0), answer(network, 0, 3), answer(network, 0, 10)], [log[:40], log[3:43], log[10:]])
        self.assertEqual(answer(network, 0, most=45), log)

    def test_most_by_name_alone(self):
        with self.assertRaises(TypeError):
            answer(self.network, 0, 0, 1)

    def test_errors(self):
        network = self.network
        network.stop(1)
        before = state(network)
        for value in any_values():
            if type(value) is not int or value not in (0, 1):
                self.raises(InvalidHouse, {"given": value}, answer, network, value, None, most=None)
            if type(value) is not int or value < 0:
                self.raises(InvalidCount, {"given": value}, answer, network, 0, value, most=None)
                self.raises(InvalidCount, {"given": value}, answer, network, 0, 0, most=value)
                self.raises(InvalidCount, {"given": value}, answer, network, 0, most=value)
            self.raises(Stopped, {"house": 1}, answer, network, 1, value, most=value)
        for value in NO_COUNTS:
            self.raises(InvalidCount, {"given": value}, answer, network, 0, value)
            self.raises(InvalidCount, {"given": value}, answer, network, 0, 99, most=value)
        self.raises(InvalidCount, {"given": -1}, answer, network, 0, -1, most=-2)
        self.raises(InvalidHouse, {"given": 2}, answer, network, 2)
        self.raises(InvalidHouse, {"given": True}, answer, network, True)
        self.assertEqual(answer(network, 0), self.log)
        self.assertEqual(state(network), before)


class TestLiveDesk(Case):
    def test_maps_only_grow_finer(self):
        dice = seeded(223)
        grown = 0
        for _ in range(120):
            network = random_network(dice, dice.randrange(2, 9), 16, dice.choice([0, 0.1]))
            names = network.names
            seats = dice.sample(range(len(names)), dice.randrange(2, min(len(names), 6) + 1))
            desk = Desk([names[seat] for seat in seats])
            true, elder, known = true_map(network.tree, names, seats), [], {}
            for _ in range(20):
                reader = dice.randrange(len(seats))
                if seats[reader] not in network.stopped:
                    start = dice.randrange(desk.asks()[reader] + 1)
                    before = desk.asks()[reader]
                    came = desk.come(reader, start, answer(network, seats[reader], start, most=dice.randrange(6)))
                    self.assertEqual(desk.asks()[reader], before + came)
                drawn = desk.map()
                self.assertIs(comes_of(elder, drawn, len(seats)), True)
                self.assertIs(comes_of(drawn, true, len(seats)), True)
                grown += len(drawn) > len(elder)
                elder = drawn
                if dice.random() < 0.5:
                    expected = [(lot, known.get(lot, 0), roads) for lot, roads, arrows in drawn if roads > known.get(lot, 0)]
                    self.assertEqual(desk.news(), expected)
                    known = {lot: roads for lot, roads, arrows in drawn}
        self.assertGreater(grown, 30)

    def test_largest(self):
        lines = [(name, "x") for name in house_names(40)]
        desk = Desk([None] * 12)
        for reader in range(12):
            self.assertEqual(desk.come(reader, 0, lines[::-1] if reader % 2 else lines), 40)
        self.assertEqual(desk.news(), [((1, 3, 5, 7, 9, 11), 0, 39)])
