"""Plain slow meanings to compare with: two logs by trying all rows of all houses of a way."""

from itertools import permutations, product


def all_rows(lines):
    """All rows that have some of these lines, none twice."""
    return [row for many in range(len(lines) + 1) for row in permutations(lines, many)]


def are_right(row_u, row_v, level, t):
    """Whether rows are right at the road between the houses t and t + 1 of a way, as point 46 tells it."""
    near = [line for line in {*row_u, *row_v} if level[line[0]] <= t]
    if any(line in near and line not in row_u for line in row_v):
        return False
    if any(line not in near and line not in row_v for line in row_u):
        return False
    for k, b in enumerate(row_v):
        for a in row_v[k + 1:]:
            if a in row_u and b in row_u and row_u.index(a) < row_u.index(b) and (a not in near or b in near):
                return False
    return True


def levels_of(founds, roads):
    """All ways to hang the houses of the names on the houses of a way."""
    names = sorted({line[0] for own, lines in founds for line in lines})
    ends = {founds[0][0]: [0], founds[1][0]: [roads]}
    for levels in product(*[ends.get(name, range(roads + 1)) for name in names]):
        yield dict(zip(names, levels))


def can_be(founds, level, roads):
    """Whether rows of the houses of the way lead from the one log to the other one."""
    lines = sorted({line for own, row in founds for line in row})
    rows = all_rows(lines)
    first, last = [tuple(row) for own, row in founds]
    here = [row for row in rows if row[:len(first)] == first]
    for t in range(roads):
        here = [row for row in rows if any(are_right(other, row, level, t) for other in here)]
    return any(row[:len(last)] == last for row in here)


def slow_roads(founds, most):
    """The fewest roads, up to so many, of a way between the houses of the two logs, or None."""
    for roads in range(1, most + 1):
        if any(can_be(founds, level, roads) for level in levels_of(founds, roads)):
            return roads
    return None
