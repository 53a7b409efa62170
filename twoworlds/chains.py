"""Sums of whole numbers, question by question.

A SIDE is a pair (row, modulus), the row being a list of integers. The worlds in
which the sums of some sides are 0 (or multiples of their moduli) are the sums of
their RUNGS, each times an integer. A chain has a LINK for each side: a triple
(row, lead, worth), the lead being a sum of the rungs of the sides ahead whose own
sum in this row is, but for a multiple of the modulus, the worth: the greatest
common divisor of all sums that are left. The worth is 0 if only 0 is left.
"""

from math import gcd


def dot(one, other):
    """The sum of the integers of two lists, place by place times each other."""
    return sum([a * b for a, b in zip(one, other)])


def vector_of(names, row):
    """The integers of a dict, in the order of names, 0 for those that it lacks."""
    return [row.get(name, 0) for name in names]


def dict_of(names, vector):
    """The dict from names to the integers of a list."""
    return {name: number for name, number in zip(names, vector)}


def is_multiple(number, modulus):
    """Whether a number is a multiple of the modulus, 0 if that is 0."""
    if modulus == 0:
        return number == 0
    return number % modulus == 0


def remainder(number, modulus):
    """The remainder of a number, itself if the modulus is 0."""
    if modulus == 0:
        return number
    return number % modulus


def lowest(top, bottom):
    """The fraction in lowest terms."""
    common = gcd(top, bottom)
    return (top // common, bottom // common)


def bezout(one, other):
    """A triple of the greatest common divisor and two factors that make it of both; other is above 0."""
    last, rest = one, other
    factor, following = 1, 0
    while rest:
        times = last // rest
        last, rest = rest, last - times * rest
        factor, following = following, factor - times * following
    return (last, factor, (last - factor * one) // other)


def reduced(vector, rungs):
    """A list less as many of each rung as leave from 0 on, at its first place, less than the rung has there."""
    for rung in rungs:
        place = [number != 0 for number in rung].index(True)
        times = vector[place] // rung[place]
        vector = [a - times * b for a, b in zip(vector, rung)]
    return vector


def narrowed(rungs, side):
    """A triple (rungs, lead, worth): what is left of rungs by a side, in the form of a ladder."""
    row, modulus = side
    left = []
    lead, worth = [0] * len(row), modulus
    # From below, so that each rung is made of itself and of those to the right of it alone.
    for rung in rungs[::-1]:
        value = dot(row, rung)
        if value == 0:
            left = [rung, *left]
        elif worth == 0:
            sign = 1 if value > 0 else -1
            lead, worth = [sign * number for number in rung], sign * value
        else:
            common, by_rung, by_lead = bezout(value, worth)
            high, low = worth // common, value // common
            rung_left = [high * a - low * b for a, b in zip(rung, lead)]
            lead = reduced([by_rung * a + by_lead * b for a, b in zip(rung, lead)], left)
            left = [reduced(rung_left, left), *left]
            worth = common
    return (left, lead, worth)


def chain_of(width, sides):
    """A pair of the links of some sides and the rungs that are left."""
    rungs = [[1 if place == k else 0 for place in range(width)] for k in range(width)]
    links = []
    for side in sides:
        rungs, lead, worth = narrowed(rungs, side)
        links.append((side[0], lead, worth))
    return (links, rungs)


def step_of(rungs, side):
    """The greatest common divisor of the modulus and of all sums over rungs, 0 if it is the modulus."""
    row, modulus = side
    common = modulus
    for rung in rungs:
        common = gcd(common, dot(row, rung))
    return 0 if common == modulus else common


def parting_rung(rungs, side):
    """The first rung whose sum is no multiple of the modulus, or None."""
    row, modulus = side
    for rung in rungs:
        if not is_multiple(dot(row, rung), modulus):
            return rung
    return None


def weights_of(links, row, bottom, modulus):
    """A list of fractions, one for each link, that make row, over bottom, of the rows.

    What they make differs from it by integers that are multiples of the modulus
    (not at all, if that is 0), where each rung of the links' sides has such a sum
    in it. So each weight may be taken less a multiple of the modulus.
    """
    weights = []
    for side, lead, worth in links[::-1]:
        top, under = 0, 1
        if worth != 0:
            top, under = lowest(dot(row, lead), bottom * worth)
            top = remainder(top, under * modulus)
            row, bottom = _less(row, bottom, side, top, under)
        weights.append((top, under))
    return weights[::-1]


def settled(width, links, answers):
    """A triple (vector, place, gap) of a world by answers, in the order of the links.

    The place is None, or that of the first link whose answer can not be had beside
    those ahead; then the world has those, and the gap is what is lacking of this one.
    """
    vector = [0] * width
    for place, answer in enumerate(answers):
        row, lead, worth = links[place]
        gap = answer - dot(row, vector)
        if not is_multiple(gap, worth):
            return (vector, place, gap)
        if worth != 0:
            times = gap // worth
            vector = [a + times * b for a, b in zip(vector, lead)]
    return (vector, None, 0)


def clashing(links, place, gap):
    """The fractions, one for each link up to a place, by which answers clash there with those ahead."""
    row, _, worth = links[place]
    bottom = worth if worth != 0 else 2 * abs(gap)
    ahead = weights_of(links[:place], [-number for number in row], bottom, 1)
    return [*ahead, (1, bottom)]


def _less(row, bottom, side, top, under):
    """The row over bottom, less a side times a fraction, as a pair of a list and its bottom."""
    common = gcd(bottom, under)
    high, low = under // common, bottom // common
    return ([high * a - top * low * b for a, b in zip(row, side)], bottom * high)
