"""All errors of the package."""


class LostError(ValueError):
    """What all errors of the package are."""


class InvalidLine(LostError):
    """The value is not a line."""

    def __init__(self, given):
        self.given = given


class InvalidText(LostError):
    """The value is not a text of the kind that is asked for."""

    def __init__(self, given):
        self.given = given


class InvalidHouses(LostError):
    """The value is not the number of houses of a tree."""

    def __init__(self, given):
        self.given = given


class InvalidRoads(LostError):
    """The value is not the list of the roads of a tree."""

    def __init__(self, given):
        self.given = given


class InvalidHouse(LostError):
    """The value is not a house of the tree."""

    def __init__(self, given):
        self.given = given


class InvalidNames(LostError):
    """The value is not a list of the names of the houses."""

    def __init__(self, given):
        self.given = given


class InvalidScript(LostError):
    """The value is not a script."""

    def __init__(self, given):
        self.given = given


class InvalidFounds(LostError):
    """The value is not founds."""

    def __init__(self, given):
        self.given = given


class InvalidCount(LostError):
    """The value is not a number of lines that is asked for."""

    def __init__(self, given):
        self.given = given


class InvalidCounts(LostError):
    """The value is not a list of numbers of lines, one for each reader."""

    def __init__(self, given):
        self.given = given


class InvalidLater(LostError):
    """The value is not founds that could be later ones."""

    def __init__(self, given):
        self.given = given


class InvalidIndex(LostError):
    """The value is not the index of a reader that is asked for."""

    def __init__(self, given):
        self.given = given


class InvalidReaders(LostError):
    """The value is not a number of readers."""

    def __init__(self, given):
        self.given = given


class InvalidMap(LostError):
    """The value is not a map of so many readers."""

    def __init__(self, given):
        self.given = given


class InvalidLot(LostError):
    """The value is not a lot of readers that is asked for."""

    def __init__(self, given):
        self.given = given


class InvalidSeats(LostError):
    """The value is not a list of houses in which readers can sit."""

    def __init__(self, given):
        self.given = given


class InvalidName(LostError):
    """The value is not a name that is asked for."""

    def __init__(self, given):
        self.given = given


class InvalidOwns(LostError):
    """The value is not a list of the owns of readers."""

    def __init__(self, given):
        self.given = given


class InvalidLines(LostError):
    """The value is not a list of lines."""

    def __init__(self, given):
        self.given = given


class InvalidWriters(LostError):
    """The value is not a list of houses that write lines."""

    def __init__(self, given):
        self.given = given


class InvalidRows(LostError):
    """The value is not a list of rows of lines, one for each house."""

    def __init__(self, given):
        self.given = given


class NotJoined(LostError):
    """No way leads to the house from house 0."""

    def __init__(self, house):
        self.house = house


class NotARoad(LostError):
    """The two houses are not neighbours."""

    def __init__(self, u, v):
        self.u = u
        self.v = v


class Stopped(LostError):
    """The house has stopped."""

    def __init__(self, house):
        self.house = house


class Twice(LostError):
    """The house has written this text before."""

    def __init__(self, house, text):
        self.house = house
        self.text = text


class NothingUnderWay(LostError):
    """No line is under way from u to v."""

    def __init__(self, u, v):
        self.u = u
        self.v = v


class Refused(LostError):
    """The deed with this index in a script cannot be done."""

    def __init__(self, at):
        self.at = at


class NotRight(LostError):
    """Rows are not right at a road, as these lines show."""

    def __init__(self, road, lines):
        self.road = road
        self.lines = lines


class Ringed(LostError):
    """These names are in a ring by arrows."""

    def __init__(self, names):
        self.names = names


class NoRow(LostError):
    """The value is not a row of names by arrows."""

    def __init__(self, names):
        self.names = names


class NotTwo(LostError):
    """The founds do not have two readers."""

    def __init__(self, many):
        self.many = many


class Nobodys(LostError):
    """The two founds are those of no network, as the picture shows."""

    def __init__(self, picture):
        self.picture = picture


class Crossed(LostError):
    """Two cuts of the founds cross."""

    def __init__(self, cross):
        self.cross = cross


class NotWhole(LostError):
    """The reader lacks a line that another one has."""

    def __init__(self, reader):
        self.reader = reader


class Fitless(LostError):
    """The whole founds are those of no ended network, as the picture shows."""

    def __init__(self, picture):
        self.picture = picture


class Clash(LostError):
    """Lines that come do not go with those that a desk has of the reader."""

    def __init__(self, reader):
        self.reader = reader


class TooMany(LostError):
    """There are more of them than can be gone through."""

    def __init__(self, count):
        self.count = count


class NoLetter(LostError):
    """No letter under way has this index."""

    def __init__(self, k):
        self.k = k
