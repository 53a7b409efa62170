"""Rings of letters, and the numbers of their pieces."""

from twoworlds.checks import check_from_one, check_letters, is_word
from twoworlds.errors import BadAnswers, BadWorld
from twoworlds.turns import are_counts, counted, first_turn, many_strings, read_round, ring_from, strings_from


def numbers(letters, ring, n):
    """The dict from all pieces of n letters that stand in a ring to their numbers."""
    _check_ring(letters, ring)
    check_from_one(n)
    return counted(ring, n)


def is_of_ring(letters, n, thing):
    """Whether any object is such a dict of some ring."""
    check_letters(letters)
    check_from_one(n)
    return are_counts(letters, n, thing)


def ring_of(letters, n, counts):
    """A ring that has these numbers, or None."""
    if not is_of_ring(letters, n, counts):
        return None
    return ring_from(letters, counts)


def many_rings(letters, n, counts):
    """How many strings, read as rings, have these numbers."""
    _check_counts(letters, n, counts)
    return many_strings(counts)


def first_reading(letters, ring):
    """The alphabetically first string that is the same ring."""
    _check_ring(letters, ring)
    return first_turn(ring)


def all_rings(letters, n, counts):
    """The ascending list of the first readings of all rings that have these numbers."""
    _check_counts(letters, n, counts)
    return sorted({first_turn(text) for text in strings_from(letters, counts)})


def exchanges(letters, ring, n):
    """The ascending list of the first readings of all other rings that come by one exchange at n."""
    _check_ring(letters, ring)
    check_from_one(n)
    found = {}
    for begin in range(len(ring)):
        around = read_round(ring, begin, len(ring))
        for text in _exchanged(around, [read_round(around, place, n - 1) for place in range(len(ring))]):
            found[first_turn(text)] = True
    return sorted([text for text in found if text != first_turn(ring)])


def _check_ring(letters, ring):
    """BadLetters, or BadWorld, if it is no ring of the letters."""
    check_letters(letters)
    if not is_word(letters, ring):
        raise BadWorld(ring)


def _check_counts(letters, n, counts):
    """The errors of letters and n, or BadAnswers, if counts are those of no ring."""
    if not is_of_ring(letters, n, counts):
        raise BadAnswers(counts)


def _exchanged(ring, marks):
    """All strings that come by an exchange whose first place is the first one of the ring."""
    out = []
    for third in range(1, len(ring)):
        if marks[third] == marks[0]:
            for second in range(1, third + 1):
                for fourth in range(third + 1, len(ring)):
                    if marks[second] == marks[fourth]:
                        out.append(ring[third:fourth] + ring[second:third] + ring[:second] + ring[fourth:])
    return out
