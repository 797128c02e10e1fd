"""Points 10 and 11 over the whole program: arguments, results and errors of all functions."""

from maplost import errors
from maplost.arrows import arrows, is_why_row, ring, roads_between, row, turned, why_row
from maplost.cuts import comes_of, cross, cuts, is_cross, is_map
from maplost.desk import Desk, answer
from maplost.drawing import drawing, is_behind, is_drawing
from maplost.drawn import draw
from maplost.errors import LostError
from maplost.far import far, is_why_far, surely_apart, why_far
from maplost.faults import culprits, fault, is_fault
from maplost.fewest import fewest, is_why_no_fewer, part, why_no_fewer
from maplost.files import file_of, read_file
from maplost.findtexts import founds_text, map_text, read_founds, read_map
from maplost.founds import common, cut_back, found, goes_on, is_founds, is_whole
from maplost.networks import Network, finish, is_script, run_network
from maplost.papers import backing, is_backing
from maplost.pictures import fits, is_picture, picture
from maplost.places import least_way, map_of, of_readers, places, roads_of, ways
from maplost.rounds import hear, names_between, of_round, round_map, spread, told_all
from maplost.rows import between, place_rows, steps
from maplost.runs import script_behind
from maplost.slow import least_slow, tables, two_slow
from maplost.texts import is_line, is_name, is_round, is_text, line_text, read_line
from maplost.trees import Tree, foot, neighbours, on_way, read_tree, side, way
from maplost.truth import meets, true_map
from maplost.two import is_two_picture, is_why_two_roads, two_fit, two_picture, two_roads, why_two_roads
from maplost.twofar import two_far, two_nearer
from maplost.twonets import is_two_network, two_network
from maplost.watch import Watch, gather
from tests.helpers import Case, any_values, frozen, lists_in, path, random_network, seeded
from tests.test_networks import state

X, M, Y = ("ann", "x"), ("cy", "m"), ("bo", "y")
TWO = [("ann", [X, M, Y]), ("bo", [Y, M, X])]
SPOILT = [("ann", [Y, X, M]), ("bo", [X, Y, M])]
CUT = [("ann", [X, M]), ("bo", [Y, M, X]), (None, [M])]
RINGED = [(None, [M, ("cy", "n")]), (None, [("cy", "n"), M])]
NOBODYS = [("ann", [Y]), ("bo", [X])]
ROUND = [("ann", [("ann", "round 1"), ("bo", "round 1"), X]), ("bo", [("bo", "round 1"), ("ann", "round 1")])]
TREE = Tree(3, [(0, 1), (1, 2)])
NAMES = ["ann", "cy", "bo"]
DRAWN = [((1,), 2, (("bo", "ann"), ("bo", "cy"), ("cy", "ann")))]
SCRIPT = [("make", 0, "x"), ("make", 2, "y"), ("make", 1, "m"), ("hand", 0, 1), ("hand", 2, 1)]
ROWS = [[X], [M, X, Y], [Y]]


def network_of_three():
    return run_network(TREE, NAMES, SCRIPT)


def given_founds(error="InvalidFounds"):
    return [("founds", error)]


def read(reader="InvalidIndex"):
    return [("founds", "InvalidFounds"), ("i", reader), ("j", reader)]


def calls():
    """Each function, its arguments by name and in order, and the arguments that it can refuse, in the order of the points."""
    network = network_of_three()
    tree_and_names = {"tree": TREE, "names": NAMES}
    founds, two = {"founds": TWO}, {"founds": TWO, "i": 0, "j": 1}
    named = [("founds", "InvalidFounds"), ("reader", "InvalidIndex"), ("name", "InvalidName")]
    told = [
        (is_name, {"value": "ann"}, []), (is_text, {"value": "x"}, []), (is_line, {"value": X}, []), (is_round, {"value": "round 1"}, []),
        (line_text, {"line": X}, [("line", "InvalidLine")]), (read_line, {"text": "ann x"}, [("text", "InvalidText")]),
        (neighbours, {"tree": TREE, "house": 1}, [("house", "InvalidHouse")]),
        (way, {"tree": TREE, "a": 0, "b": 2}, [("a", "InvalidHouse"), ("b", "InvalidHouse")]),
        (on_way, {"tree": TREE, "a": 0, "b": 2, "house": 1}, [("a", "InvalidHouse"), ("b", "InvalidHouse"), ("house", "InvalidHouse")]),
        (foot, {"tree": TREE, "a": 0, "b": 2, "house": 1}, [("a", "InvalidHouse"), ("b", "InvalidHouse"), ("house", "InvalidHouse")]),
        (side, {"tree": TREE, "u": 0, "v": 1}, [("u", "InvalidHouse"), ("v", "InvalidHouse")]),
        (read_tree, {"text": "2: 0-1"}, [("text", "InvalidText")]),
        (is_script, {"tree": TREE, "value": SCRIPT}, []),
        (script_behind, {**tree_and_names, "rows": ROWS}, [("names", "InvalidNames"), ("rows", "InvalidRows")]),
        (is_founds, {"value": TWO}, []), (common, founds, given_founds()), (is_whole, founds, given_founds()),
        (found, {"network": network, "house": 1, "many": 2}, [("house", "InvalidHouse"), ("many", "InvalidCount")]),
        (cut_back, {"founds": TWO, "counts": [1, 2]}, given_founds() + [("counts", "InvalidCounts")]),
        (goes_on, {"founds": TWO, "later": TWO}, given_founds() + [("later", "InvalidLater")]),
        *[(call, two, read()) for call in [turned, arrows, ring, row, roads_between, least_way]],
        (why_row, {**two, "names": ("ann", "cy", "bo")}, read() + [("names", "NoRow")]),
        (is_why_row, {**two, "names": ("ann", "cy"), "value": [(X, M)]}, read() + [("names", "NoRow")]),
        *[(call, founds, given_founds()) for call in [two_fit, two_picture, two_roads, why_two_roads, two_network, two_slow]],
        (two_picture, {"founds": NOBODYS}, given_founds()),
        (is_two_picture, {"founds": NOBODYS, "value": ((1,), (0,))}, given_founds()),
        (is_why_two_roads, {**founds, "value": why_two_roads(TWO)}, given_founds()),
        (is_two_network, {**founds, "value": two_network(TWO)}, given_founds()),
        (two_far, {**founds, "reader": 0, "name": "cy"}, named),
        (two_nearer, {**founds, "first": "ann", "second": "cy"}, given_founds() + [("first", "InvalidName"), ("second", "InvalidName")]),
        *[(call, founds, given_founds()) for call in [cuts, cross, map_of, picture, fits, place_rows, drawing, fewest, why_no_fewer, draw, backing]],
        *[(call, founds, given_founds()) for call in [fault, culprits, least_slow, founds_text]],
        *[(call, {"founds": SPOILT}, given_founds()) for call in [picture, fault, culprits, least_slow]],
        (is_cross, {**founds, "value": None}, given_founds()),
        (is_map, {"value": DRAWN, "readers": 2}, [("readers", "InvalidReaders")]),
        (comes_of, {"rough": DRAWN, "fine": DRAWN, "readers": 2}, [("readers", "InvalidReaders"), ("rough", "InvalidMap"), ("fine", "InvalidMap")]),
        *[(call, {"drawn": DRAWN, "readers": 2}, [("readers", "InvalidReaders"), ("drawn", "InvalidMap")]) for call in [places, ways, map_text]],
        (roads_of, {"drawn": DRAWN, "readers": 2, "i": 0, "j": 1},
         [("readers", "InvalidReaders"), ("drawn", "InvalidMap"), ("i", "InvalidIndex"), ("j", "InvalidIndex")]),
        (of_readers, {"founds": CUT, "lot": [2, 0]}, given_founds() + [("lot", "InvalidLot")]),
        (true_map, {**tree_and_names, "seats": [0, 2]}, [("names", "InvalidNames"), ("seats", "InvalidSeats")]),
        (meets, {"tree": TREE, "seats": [0, 2]}, [("seats", "InvalidSeats")]),
        (is_picture, {"founds": SPOILT, "value": picture(SPOILT)}, given_founds()), (is_fault, {"founds": SPOILT, "value": fault(SPOILT)}, given_founds()),
        *[(call, {**founds, "lot": (1,)}, given_founds() + [("lot", "InvalidLot")]) for call in [steps, between]],
        *[(call, {**founds, "value": drawing(TWO)}, given_founds()) for call in [is_behind, is_drawing]],
        (part, {**founds, "name": "cy"}, given_founds() + [("name", "InvalidName")]),
        (is_why_no_fewer, {**founds, "value": ((), ())}, given_founds()),
        *[(call, {**founds, "reader": 0, "name": "bo"}, named) for call in [far, why_far]],
        (is_why_far, {**founds, "reader": 0, "name": "bo", "value": (0,)}, named),
        (surely_apart, {**founds, "lot": (1,), "first": "bo", "second": "ann"},
         given_founds() + [("lot", "InvalidLot"), ("first", "InvalidName"), ("second", "InvalidName")]),
        *[(call, {"founds": ROUND, "text": "round 1"}, given_founds() + [("text", "InvalidText")]) for call in [of_round, round_map, told_all]],
        (names_between, {"founds": ROUND, "i": 0, "j": 1, "text": "round 1"},
         [("founds", "InvalidFounds"), ("text", "InvalidText"), ("i", "InvalidIndex"), ("j", "InvalidIndex")]),
        (answer, {"network": network, "house": 1, "start": 0}, [("house", "InvalidHouse"), ("start", "InvalidCount")]),
        (tables, {"tree": TREE, "writers": [0, 2]}, [("writers", "InvalidWriters")]),
        (is_backing, {**founds, "drawn": DRAWN, "value": backing(TWO)}, given_founds() + [("drawn", "InvalidMap")]),
        (read_founds, {"text": founds_text(TWO)}, [("text", "InvalidText")]),
        (read_map, {"text": map_text(DRAWN, 2), "readers": 2}, [("readers", "InvalidReaders"), ("text", "InvalidText")]),
        (file_of, {"lines": [X, M]}, [("lines", "InvalidLines")]), (read_file, {"signs": "0005ann x."}, [("signs", "InvalidText")]),
    ]
    return told


class TestArguments(Case):
    def test_by_position_by_name_and_with_tuples(self):
        for call, given, refused in calls():
            with self.subTest(call=call.__name__):
                expected = call(*given.values())
                self.assertEqual(call(**given), expected)
                self.assertEqual(call(**dict(reversed(given.items()))), expected)
                tuples = {name: frozen(value) for name, value in given.items()}
                self.assertEqual(call(**tuples), expected)

    def test_arguments_stay_as_they_were(self):
        for call, given, refused in calls():
            before = {name: frozen(value) for name, value in given.items()}
            kept = [id(part) for value in given.values() for part in lists_in(value)]
            call(**given)
            self.assertEqual({name: frozen(value) for name, value in given.items()}, before)
            self.assertEqual([id(part) for value in given.values() for part in lists_in(value)], kept)

    def test_lists_that_are_returned_are_new(self):
        for call, given, refused in calls():
            with self.subTest(call=call.__name__):
                first, second = call(**given), call(**given)
                expected = frozen(first)
                lists = [*lists_in(first), *lists_in(second), *[part for value in given.values() for part in lists_in(value)]]
                own = [*lists_in(first), *lists_in(second)]
                self.assertEqual(len({id(part) for part in own}), len(own))
                self.assertFalse({id(part) for part in own} & {id(part) for part in lists[len(own):]})
                for part in own:
                    part.clear()
                self.assertEqual(frozen(call(**given)), expected)

    def test_equal_answers_behind_any_other_calls(self):
        dice = seeded(301)
        told = calls()
        expected = [call(**given) for call, given, refused in told]
        order = list(range(len(told))) * 3
        dice.shuffle(order)
        for k in order:
            call, given, refused = told[k]
            self.assertEqual(call(*[frozen(value) if dice.random() < 0.5 else value for value in given.values()]), expected[k])

    def test_kinds_of_bools(self):
        for call, given, refused in calls():
            if call.__name__.startswith("is_") or call in (fits, two_fit, goes_on, comes_of, on_way, told_all, surely_apart, two_nearer):
                self.assertIs(type(call(**given)), bool)


class TestErrors(Case):
    def raises_for(self, call, given, wrong, name, kind):
        with self.assertRaises(LostError) as caught:
            call(**{**given, **wrong})
        self.assertIs(type(caught.exception), getattr(errors, kind), (call.__name__, wrong))
        self.assertEqual(len(vars(caught.exception)), 1)
        self.assertIs(list(vars(caught.exception).values())[0], wrong[name])

    def test_each_argument_alone_and_two_at_once(self):
        for call, given, refused in calls():
            for k, (name, kind) in enumerate(refused):
                for wrong in [["wrong"], {"wrong": 1}, True, None, {}, LostError()]:
                    if wrong is True and name in ("readers",) or wrong is None and name == "value":
                        continue
                    self.raises_for(call, given, {name: wrong}, name, kind)
                    for other, _ in refused[k + 1:]:
                        self.raises_for(call, given, {name: wrong, other: ["wrong", 2]}, name, kind)
                    self.raises_for(call, given, {name: wrong, **{other: [] for other, _ in refused[k + 1:]}}, name, kind)

    def test_all_values_in_the_place_of_founds(self):
        fine = [value for value in any_values() if is_founds(value)]
        self.assertEqual(len(fine), 4)
        for call, given, refused in calls():
            if refused and refused[0][0] == "founds":
                for value in any_values():
                    if value not in fine:
                        self.raises_for(call, given, {"founds": value}, "founds", "InvalidFounds")

    def test_no_error_for_any_value(self):
        for call, given, refused in calls():
            if "value" in given:
                for value in any_values():
                    self.assertIs(type(call(**{**given, "value": value})), bool)

    def test_true_and_false_are_no_integers(self):
        integers = ["house", "a", "b", "u", "v", "i", "j", "many", "reader", "readers", "start"]
        for call, given, refused in calls():
            for name, kind in refused:
                if name in integers:
                    for value in (True, False):
                        self.raises_for(call, given, {name: value}, name, kind)
                elif name in ("counts", "writers", "seats", "lot"):
                    for value in ([True, False], [False], (True,), (0, True)):
                        self.raises_for(call, given, {name: value}, name, kind)

    def test_shown_errors_are_equal_on_every_call(self):
        for call, given in [(cuts, RINGED), (map_of, RINGED), (draw, RINGED), (backing, RINGED), (drawing, RINGED), (fewest, RINGED), (two_roads, NOBODYS),
                            (two_network, NOBODYS), (place_rows, SPOILT)]:
            shown = []
            for founds in [given, frozen(given), given]:
                with self.assertRaises(LostError) as caught:
                    call(founds)
                shown.append([type(caught.exception), vars(caught.exception)])
            self.assertEqual(shown, [shown[0]] * 3)


class TestObjects(Case):
    """Several networks, desks and watches at once over one tree and one list of names."""

    def test_one_list_that_is_changed_in_between(self):
        names, seats, script = list(NAMES), [0, 2], list(SCRIPT)
        tree = Tree(3, [(0, 1), (1, 2)])
        first = Network(tree, names)
        desk = Desk(names)
        names[0] = "eve"
        second = Network(tree, names)
        other_desk = Desk(names)
        third = run_network(tree, names, script)
        script.append(("make", 0, "late"))
        watch = Watch(third, seats)
        seats[0] = 1
        other_watch = Watch(third, seats)
        names.append("fay")
        seats.clear()
        self.assertEqual([first.names, second.names, third.names], [("ann", "cy", "bo"), ("eve", "cy", "bo"), ("eve", "cy", "bo")])
        self.assertEqual([desk.owns, other_desk.owns], [("ann", "cy", "bo"), ("eve", "cy", "bo")])
        self.assertEqual([own for own, lines in watch.founds() + other_watch.founds()], ["eve", "bo", "cy", "bo"])
        first.make(0, "q")
        self.assertEqual([first.log(0), second.log(0), third.log(0)], [(("ann", "q"),), (), (("eve", "x"),)])
        second.stop(1)
        self.assertEqual([first.stopped, second.stopped, third.stopped], [(), (1,), ()])
        self.assertEqual([gather(watch), gather(other_watch), len(third.script)], [2, 4, 5])
        desk.come(0, 0, answer(first, 0))
        self.assertEqual([desk.asks(), other_desk.asks()], [[1, 0, 0], [0, 0, 0]])
        self.assertEqual([tree.line(), tree == TREE], ["3: 0-1 1-2", True])

    def test_networks_side_by_side(self):
        dice = seeded(302)
        for _ in range(30):
            plain = random_network(dice, 5, 12, 0.1)
            alone = [run_network(plain.tree, plain.names, plain.script[:k]) for k in (0, len(plain.script) // 2, len(plain.script))]
            before = [state(network) for network in alone]
            watches = [Watch(network, [0, 4]) for network in alone for _ in range(2)]
            for network in alone:
                copy = run_network(network.tree, network.names, network.script)
                finish(copy)
                spread(copy)
                gather(watches[0])
            for watch in watches:
                gather(watch)
            self.assertEqual([state(network) for network in alone], before)
            for k in range(0, 6, 2):
                self.assertEqual(watches[k].founds(), watches[k + 1].founds())
                self.assertEqual(watches[k].map(), watches[k + 1].map())

    def test_desk_and_watch_by_name(self):
        network = network_of_three()
        watch = Watch(seats=[0, 2], network=network)
        desk = Desk(owns=["ann", "bo"])
        self.assertEqual([desk.come(start=0, lines=[X], reader=0), watch.ask(reader=0), watch.double(k=0), watch.bring(k=0), watch.drop(k=0)], [1] + [None] * 4)
        self.assertEqual(hear(v=1, u=2, network=run_network(TREE, NAMES, SCRIPT[:2])), ("bo", "y"))
        self.assertEqual(gather(watch=watch), 2)

    def test_objects_of_other_classes_are_not_equal(self):
        network = network_of_three()
        things = [TREE, network, Desk(["ann"]), Watch(network, [0]), LostError(), None, 3, "3: 0-1 1-2", (), []]
        for k, thing in enumerate(things):
            for other in things[:k]:
                self.assertFalse(thing == other)
                self.assertTrue(thing != other)
        self.assertTrue(TREE == path(3))
