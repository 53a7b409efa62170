"""Rows of integers, and which of them are sums of others times fractions.

STAIRS are pairs (place, row): each row has an integer other than 0 at its place, at
which all others have 0. Rows are MARKED behind their own integers: with how many times
each of the given rows, and the target, was taken for them.
"""

from math import gcd, lcm

from twoworlds.chains import lowest


def weights_for(rows, target):
    """A list of fractions, one for each row, by which the rows sum up to the target, or None."""
    rest, _ = _rest_and_stairs(rows, target)
    if any(rest[:len(target)]):
        return None
    # The target, so many times, and the rows, times their marks, are 0 together.
    times = rest[-1]
    sign = -1 if times > 0 else 1
    return [lowest(sign * number, abs(times)) for number in rest[len(target):-1]]


def parting_line(rows, target):
    """A list of integers whose sum with each row is 0, and with the target is not; None if there is none."""
    rest, stairs = _rest_and_stairs(rows, target)
    free = [place for place in range(len(target)) if rest[place] != 0]
    if len(free) == 0:
        return None
    common = 1
    for place, row in stairs:
        common = lcm(common, row[place])
    line = [0] * len(target)
    line[free[0]] = common
    for place, row in stairs:
        line[place] = -row[free[0]] * (common // row[place])
    return line


def _rest_and_stairs(rows, target):
    """A pair of the marked target, less rows, and of the marked stairs of these."""
    marked = [[*row, *[1 if place == k else 0 for k in range(len(rows))], 0] for place, row in enumerate(rows)]
    stairs = _stairs(marked, len(target))
    return (_cleared([*target, *[0] * len(rows), 1], stairs), stairs)


def _stairs(rows, width):
    """Stairs of which the same is made as of rows, with places ahead of a width."""
    stairs = []
    for given in rows:
        row = _cleared(given, stairs)
        places = [place for place in range(width) if row[place] != 0]
        if len(places) > 0:
            stairs = [(place, _cleared(other, [(places[0], row)])) for place, other in stairs]
            stairs.append((places[0], row))
    return stairs


def _cleared(row, stairs):
    """A row, so many times, less stairs, so that it has 0 at all their places; without a common divisor."""
    for place, stair in stairs:
        if row[place] != 0:
            row = [a * stair[place] - row[place] * b for a, b in zip(row, stair)]
    common = 0
    for number in row:
        common = gcd(common, number)
    return [number // common for number in row] if common > 1 else row
