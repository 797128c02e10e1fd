"""Rows of lines at the houses of a way, between those of its two ends.

A line has a level: the index on the way of the house at which the way from its writer meets the way. At the road
from the house t to the house t + 1, lines of levels up to t are low, they go over it from t; all others are high,
and come to t over it. So low ones keep their order, and so do high ones, and a high one that is behind a low one at
the house t may be ahead of it at the house t + 1, but never the other way round.
"""


def way_rows(first, last, levels, roads):
    """Rows for the houses of a way of so many roads, the first and the last of which are given.

    A line a ahead of a line b in the first row and behind it in the last one must have the lesser level. A line
    that the last row lacks must have a level below `roads`, and one that the first row lacks a level above 0.
    """
    rows = [[line for line in first if line in last]]
    for t in range(roads):
        rows.append(next_row(rows[t], last, levels, t))
    for k, line in enumerate(first):
        if line not in last:
            for t in range(levels[line] + 1):
                put_behind(rows[t], line, [a for a in first[:k] if levels[a] >= t])
    for k, line in enumerate(last):
        if line not in first:
            for t in range(levels[line], roads + 1):
                put_behind(rows[t], line, [a for a in last[:k] if levels[a] <= t])
    return rows


def next_row(row, last, levels, t):
    """The row of the house t + 1: each high line goes ahead as far as the row of the last house lets it.

    Going as far as can be is enough: what bars a line of the level t + 1 here is ahead of it at the last house, too.
    """
    place = {line: k for k, line in enumerate(last)}
    out = []
    for line in row:
        at = len(out)
        if levels[line] > t:
            while at > 0 and levels[out[at - 1]] <= t and place[out[at - 1]] > place[line]:
                at -= 1
        out.insert(at, line)
    return out


def put_behind(row, line, ahead):
    """Puts a line into a row right behind the last one of those that have to be ahead of it."""
    at = max([k + 1 for k, other in enumerate(row) if other in ahead], default=0)
    row.insert(at, line)
