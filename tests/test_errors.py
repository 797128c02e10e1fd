"""Point 11: the errors."""

import inspect

from maplost import errors
from maplost.errors import LostError
from tests.helpers import Case, any_values

GIVEN = (
    "InvalidLine InvalidText InvalidHouses InvalidRoads InvalidHouse InvalidNames InvalidScript InvalidFounds "
    "InvalidCount InvalidCounts InvalidLater InvalidIndex InvalidReaders InvalidMap InvalidLot InvalidSeats "
    "InvalidName InvalidOwns InvalidLines InvalidWriters InvalidRows"
).split()
OTHERS = {
    "NotJoined": ["house"], "NotARoad": ["u", "v"], "Stopped": ["house"], "Twice": ["house", "text"],
    "NothingUnderWay": ["u", "v"], "Refused": ["at"], "NotRight": ["road", "lines"], "Ringed": ["names"],
    "NoRow": ["names"], "NotTwo": ["many"], "Nobodys": ["picture"], "Crossed": ["cross"], "NotWhole": ["reader"],
    "Fitless": ["picture"], "Clash": ["reader"], "TooMany": ["count"], "NoLetter": ["k"],
}


class TestErrors(Case):
    def attributes(self):
        return {**{name: ["given"] for name in GIVEN}, **OTHERS}

    def test_there_are_just_these(self):
        classes = [name for name, value in vars(errors).items() if inspect.isclass(value)]
        self.assertEqual(sorted(classes), sorted(["LostError", *self.attributes()]))

    def test_classes(self):
        self.assertTrue(issubclass(LostError, ValueError))
        for name in self.attributes():
            kind = getattr(errors, name)
            self.assertTrue(issubclass(kind, LostError))
            for other in self.attributes():
                if other != name:
                    self.assertFalse(issubclass(kind, getattr(errors, other)), (name, other))

    def test_attributes_by_position_and_by_name(self):
        for name, attributes in self.attributes().items():
            kind = getattr(errors, name)
            for value in any_values():
                values = [[value], value][:len(attributes)]
                by_position = kind(*values)
                by_name = kind(**dict(zip(attributes, values)))
                for attribute, kept in zip(attributes, values):
                    self.assertIs(getattr(by_position, attribute), kept)
                    self.assertIs(getattr(by_name, attribute), kept)

    def test_can_be_raised(self):
        for name, attributes in self.attributes().items():
            with self.assertRaises(LostError):
                raise getattr(errors, name)(*attributes)
