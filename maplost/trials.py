"""Rows of few lines at the two houses of a road, to be tried out all."""

from maplost.arrows import turned_lines


def rows_of(lines):
    """All rows of some of these lines in any order, the shorter ones first."""
    rows = [()]
    longest = [()]
    for _ in lines:
        longest = [(*row, line) for row in longest for line in lines if line not in row]
        rows.extend(longest)
    return rows


def asked_by(rows):
    """For each two of some rows the names that they ask for on either side of a road."""
    return {(row, other): sides_asked(row, other) for row in rows for other in rows}


def sides_asked(row, other):
    """The names whose houses have to be on the one side of a road, and on the other one, for two rows there.

    The rows of the two houses of a road are right there exactly if all these houses are on these sides.
    """
    pairs = turned_lines(row, other)
    near = [line[0] for line in row if line not in other] + [a[0] for a, b in pairs]
    far = [line[0] for line in other if line not in row] + [b[0] for a, b in pairs]
    return (near, far)


def rows_before(rows, others, asked, near):
    """Those rows of the one house of a road that go with some row of the other house, by the names on its side."""
    return [row for row in rows if goes_with_one(row, others, asked, near)]


def goes_with_one(row, others, asked, near):
    """Whether a row of the one house of a road goes with one of the rows of the other house."""
    for other in others:
        here, there = asked[(row, other)]
        if all([name in near for name in here]) and not any([name in near for name in there]):
            return True
    return False
