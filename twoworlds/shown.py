"""Rings at hand, of which the numbers of all pieces of some length are shown."""

from twoworlds.checks import is_word
from twoworlds.errors import BadPiece
from twoworlds.rings import all_rings
from twoworlds.turns import counted, number_of

LONGEST_SHOWN = 6


def shown_numbers(letters, n, counts, piece):
    """The ascending list of the numbers that a piece has in the rings that have counts."""
    found = all_rings(letters, n, counts)
    if not is_word(letters, piece) or len(piece) > LONGEST_SHOWN:
        raise BadPiece(0)
    return sorted({number_of(ring, piece) for ring in found})


def settled_by(letters, n, counts):
    """The least length from n on of which the numbers of pieces belong to one ring alone."""
    found = all_rings(letters, n, counts)
    m = n
    while len({tuple(counted(ring, m).items()) for ring in found}) < len(found):
        m += 1
    return m
