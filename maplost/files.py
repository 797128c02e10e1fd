"""Logs in files that can be torn: what is left of such a file is read as a log that is cut off."""

from maplost.errors import InvalidLines, InvalidText
from maplost.texts import is_line, line_in, line_text
from maplost.values import is_list

HEAD = 4
END = "."


def file_of(lines):
    """The string of the frames of lines: the number of signs, the line as one string, and a full stop."""
    if not is_list(lines) or not all([is_line(line) for line in lines]):
        raise InvalidLines(lines)
    texts = [line_text(line) for line in lines]
    return "".join([f"{len(text):04d}{text}{END}" for text in texts])


def read_file(signs):
    """The lines of the frames from the beginning of a string on, as far as one stands behind the other."""
    if type(signs) is not str:
        raise InvalidText(signs)
    lines = []
    at = 0
    text = framed_at(signs, at)
    while text is not None:
        lines.append(line_in(text))
        at += HEAD + len(text) + len(END)
        text = framed_at(signs, at)
    return lines


def framed_at(signs, at):
    """The line as one string whose frame begins at an index of a string, or None if no frame begins there."""
    start = at + HEAD
    figures = signs[at:start]
    if len(figures) < HEAD or not all([sign in "0123456789" for sign in figures]):
        return None
    end = start + int(figures)
    # If there are too few signs for the line, there is no full stop behind it either.
    if signs[end:end + len(END)] != END or line_in(signs[start:end]) is None:
        return None
    return signs[start:end]
