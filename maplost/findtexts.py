"""Founds and maps as texts, which can be read again."""

from maplost.cuts import check_many, check_map, is_map
from maplost.errors import InvalidText
from maplost.founds import check_founds, is_founds
from maplost.texts import line_text
from maplost.values import is_number

READER_WORD = "reader"
READER_FIGURES = 2
ROAD_FIGURES = 900


def founds_text(founds):
    """The founds as a string of rows: one for each reader, and behind it one for each line."""
    check_founds(founds)
    return founds_rows(founds)


def founds_rows(founds):
    """The rows of founds, each with a line feed, as one string."""
    rows = []
    for own, lines in founds:
        rows.append(READER_WORD if own is None else f"{READER_WORD} {own}")
        rows.extend([f"- {line_text(line)}" for line in lines])
    return "".join([row + "\n" for row in rows])


def read_founds(text):
    """The founds for which `founds_text` gives this string."""
    founds = []
    for row in rows_in(text):
        word, _, rest = row.partition(" ")
        if word == READER_WORD:
            founds.append((rest if rest else None, []))
        elif founds:
            name, _, line = rest.partition(" ")
            founds[-1][1].append((name, line))
    # What was read without a check must have just this text.
    if not is_founds(founds) or founds_rows(founds) != text:
        raise InvalidText(text)
    return founds


def rows_in(text):
    """The rows of a text that end with a line feed, without it; raises InvalidText unless the value is a string."""
    if type(text) is not str:
        raise InvalidText(text)
    return text.split("\n")[:-1]


def map_text(drawn, readers):
    """A map of so many readers as a string of rows, one for each cut."""
    check_map(drawn, readers)
    return map_rows(drawn)


def map_rows(drawn):
    """The rows of a map, each with a line feed, as one string."""
    rows = []
    for lot, roads, arrows in drawn:
        rows.append([*[str(reader) for reader in lot], "|", str(roads), "|", *[f"{a}>{b}" for a, b in arrows]])
    return "".join([" ".join(words) + "\n" for words in rows])


def read_map(text, readers):
    """The map of so many readers for which `map_text` gives this string."""
    check_many(readers)
    drawn = [cut_in(row) for row in rows_in(text)]
    # What was read without a check must have just this text.
    if not is_map(drawn, readers) or map_rows(drawn) != text:
        raise InvalidText(text)
    return drawn


def cut_in(row):
    """The cut of a row, or what is none, or has another row, if it is not that of a cut."""
    lot, _, rest = row.partition(" | ")
    roads, _, arrows = rest.partition(" |")
    readers = tuple([number_in(word, READER_FIGURES) for word in lot.split(" ")])
    return (readers, number_in(roads, ROAD_FIGURES), tuple([arrow_in(word) for word in arrows.split(" ")[1:]]))


def number_in(word, most):
    """The number of a word, or None if it is not the word of one of so many figures."""
    # Numbers of too many figures are refused before they are read: they can be longer than int allows.
    return int(word) if is_number(word, most) else None


def arrow_in(word):
    """The two words of an arrow, like ann>bo."""
    first, _, second = word.partition(">")
    return (first, second)
