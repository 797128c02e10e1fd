"""Point 192: maps as lines."""

from maplost.cuts import is_cross
from maplost.drawn import draw
from maplost.errors import Crossed, InvalidFounds, Ringed
from maplost.places import map_of
from tests.helpers import Case, any_values, ended_network, frozen, house_names, lists_in, seeded, whole_founds
from tests.test_cuts import FOUNDS, FOUR, A, B, C, random_founds
from tests.test_places import BOTH, RINGED


def read_back(row, readers):
    """The lot and the number of roads of a line, if it is one of point 192."""
    head, roads = row.split(": ")
    others, lot = [[int(word) for word in part.split(" ")] for part in head.split(" | ")]
    assert sorted(others + lot) == list(range(readers)) and others == sorted(others) and lot == sorted(lot) and 0 in others
    many, word = roads.split(" ")
    assert word == ("road" if many == "1" else "roads")
    return tuple(lot), int(many)


class TestDraw(Case):
    def test_by_the_words(self):
        dice = seeded(251)
        seen = {"one": 0, "more": 0, "none": 0, "error": 0}
        for _ in range(600):
            founds = random_founds(dice)
            before = frozen(founds)
            try:
                drawn = map_of(founds)
            except (Crossed, Ringed) as error:
                self.raises(type(error), vars(error), draw, founds)
                seen["error"] += 1
                continue
            told = draw(founds=founds)
            self.assertIs(type(told), list)
            self.assertEqual([read_back(row, len(founds)) for row in told], [(lot, roads) for lot, roads, arrows in drawn])
            self.assertEqual(draw(tuple((own, tuple(lines)) for own, lines in founds)), told)
            seen["none"] += not told
            for lot, roads, arrows in drawn:
                seen["one" if roads == 1 else "more"] += 1
            self.assertEqual(frozen(founds), before)
        self.assertGreater(min(seen.values()), 30, seen)

    def test_lines_as_they_stand(self):
        self.assertEqual(draw(FOUNDS), ["0 2 | 1: 1 road", "0 | 1 2: 1 road", "0 1 | 2: 1 road"])
        lines = [(name, "x") for name in house_names(12)]
        founds = [(None, lines[::-1] if k in (1, 3, 10, 11) else lines) for k in range(12)]
        self.assertEqual(draw(founds), ["0 2 4 5 6 7 8 9 | 1 3 10 11: 11 roads"])
        self.assertEqual([draw([("ann", [A, B])]), draw([(None, []), (None, [A])])], [[], []])
        self.assertEqual(draw([(None, [A, C, B]), (None, [B, C, A])]), ["0 | 1: 2 roads"])

    def test_errors(self):
        for value in [[("ann", [A, A])], [], *any_values()]:
            if value not in ([("ann", [])], [(None, [])], ((None, ()),), [(None, [("ann", "x")])]):
                self.raises(InvalidFounds, {"given": value}, draw, value)
        self.raises(Ringed, {"names": ("ann",)}, draw, RINGED)
        # Cuts that cross count ahead of names in a ring.
        for founds in [FOUR, BOTH]:
            with self.assertRaises(Crossed) as caught:
                draw(founds)
            self.assertIs(is_cross(founds, caught.exception.cross), True)

    def test_new_lists(self):
        told = draw(FOUNDS)
        self.assertEqual(len(lists_in(told)), 1)
        told.clear()
        self.assertEqual(len(draw(FOUNDS)), 3)

    def test_largest(self):
        dice = seeded(252)
        network = ended_network(dice, 62, 40)
        founds = whole_founds(dice, network, dice.sample(range(62), 12))
        self.assertEqual([read_back(row, 12) for row in draw(founds)], [cut[:2] for cut in map_of(founds)])
