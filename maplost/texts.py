"""Names, texts and lines, and lines as strings."""

from maplost.errors import InvalidLine, InvalidText
from maplost.values import are_different, is_list, is_number, is_tuple

NAME_LENGTH = 8
TEXT_LENGTH = 40
LETTERS = "abcdefghijklmnopqrstuvwxyz"
ROUND_WORD = "round "
ROUND_FIGURES = 9


def is_name(value):
    """Whether any value is a name."""
    if type(value) is not str or not 1 <= len(value) <= NAME_LENGTH:
        return False
    return all(["a" <= sign <= "z" for sign in value])


def is_text(value):
    """Whether any value is a text of a line."""
    if type(value) is not str or len(value) > TEXT_LENGTH:
        return False
    return all([" " <= sign <= "~" for sign in value])


def is_line(value):
    """Whether any value is a line, a tuple (name, text)."""
    return is_tuple(value, 2) and is_name(value[0]) and is_text(value[1])


def line_text(line):
    """The line as one string: its name, a space and its text."""
    if not is_line(line):
        raise InvalidLine(line)
    return line[0] + " " + line[1]


def read_line(text):
    """The line that `line_text` gives this string for."""
    line = line_in(text)
    if line is None:
        raise InvalidText(text)
    return line


def line_in(value):
    """The line that any value has as one string, or None if it is no such string."""
    if type(value) is not str:
        return None
    name, space, rest = value.partition(" ")
    return (name, rest) if space == " " and is_line((name, rest)) else None


def is_round(value):
    """Whether any value is the text of a round."""
    if type(value) is not str or not value.startswith(ROUND_WORD):
        return False
    return is_number(value[len(ROUND_WORD):], ROUND_FIGURES)


def short_names():
    """The list of the names of one letter, and behind them of those of two letters."""
    return [first + second for first in ["", *LETTERS] for second in LETTERS]


def are_names(value, many):
    """Whether any value is a list of so many different names."""
    if not is_list(value) or len(value) != many:
        return False
    return all([is_name(name) for name in value]) and are_different(value)


def are_lines(value):
    """Whether any value is a list of different lines."""
    return is_list(value) and all([is_line(line) for line in value]) and are_different(value)
