"""Rings of letters, read round: what their pieces are, and rings that are put together from these."""

from math import factorial

from twoworlds.checks import is_count, is_word
from twoworlds.walks import onward, reached


def read_round(ring, place, many):
    """So many letters of a ring, read on from a place."""
    around = ring * (many // len(ring) + 2)
    return around[place:place + many]


def pieces_of(ring, n):
    """The pieces of n letters, place by place."""
    around = ring + read_round(ring, 0, n - 1)
    return [around[place:place + n] for place in range(len(ring))]


def number_of(ring, piece):
    """At how many places of a ring a piece stands."""
    return pieces_of(ring, len(piece)).count(piece)


def counted(ring, n):
    """The dict from all pieces of n letters that stand in a ring, in alphabetical order, to their numbers."""
    counts = {}
    for piece in pieces_of(ring, n):
        counts[piece] = counts.get(piece, 0) + 1
    return {piece: counts[piece] for piece in sorted(counts)}


def first_turn(ring):
    """The alphabetically first string that is the same ring."""
    return min([ring[place:] + ring[:place] for place in range(len(ring))])


def are_counts(letters, n, thing):
    """Whether any object is a dict of the numbers of all pieces of n letters of some ring."""
    if not isinstance(thing, dict) or len(thing) == 0:
        return False
    for piece in thing:
        if not is_word(letters, piece) or len(piece) != n or not is_count(thing[piece]) or thing[piece] == 0:
            return False
    return _are_even(thing) and _hang_together(thing)


def ring_from(letters, counts):
    """A ring with such numbers: all steps in one round."""
    left = {piece: counts[piece] for piece in counts}
    begin = sorted(counts)[0][:-1]
    trail, done = [(begin, "")], []
    while len(trail) > 0:
        node = trail[-1][0]
        pieces = [node + letter for letter in letters if left.get(node + letter, 0) > 0]
        if len(pieces) > 0:
            left[pieces[0]] -= 1
            trail.append((pieces[0][1:], pieces[0][0]))
        else:
            done.append(trail.pop()[1])
    # Behind the last step out of a node comes what was left of it, so the round is read from its end.
    return "".join(done[::-1])


def strings_from(letters, counts):
    """All strings with such numbers that begin with the alphabetically first piece."""
    first = sorted(counts)[0]
    left = {piece: counts[piece] for piece in counts}
    left[first] -= 1
    out = []
    _read_on(letters, left, first[1:], first[0], out, sum(list(counts.values())))
    return out


def many_strings(counts):
    """How many strings have such numbers, read as rings."""
    leaving = _sums(counts, False)
    total = sum(list(counts.values())) * _many_trees(counts, list(leaving))
    for node in leaving:
        total *= factorial(leaving[node] - 1)
    for piece in counts:
        total //= factorial(counts[piece])
    return total


def _sums(counts, is_end):
    """The dict from the pieces of a letter less to the sums of those that end with them, or begin so."""
    sums = {}
    for piece in counts:
        node = piece[1:] if is_end else piece[:-1]
        sums[node] = sums.get(node, 0) + counts[piece]
    return sums


def _are_even(counts):
    """Whether as many steps lead to each piece of a letter less as lead away from it."""
    return _sums(counts, True) == _sums(counts, False)


def _hang_together(counts):
    """Whether the steps that lead on from the first one go through all of them."""
    steps = onward({piece: (piece[:-1], piece[1:]) for piece in counts}, counts)
    found = reached(steps, steps[0][2])
    return all([step[2] in found for step in steps])


def _read_on(letters, left, node, text, out, many):
    """Adds all strings of so many letters that go on from a node by the steps that are left."""
    if len(text) == many:
        out.append(text)
    for letter in letters:
        piece = node + letter
        if left.get(piece, 0) > 0:
            left[piece] -= 1
            _read_on(letters, left, piece[1:], text + piece[0], out, many)
            left[piece] += 1


def _many_trees(counts, nodes):
    """In how many ways steps at all nodes but the first one can lead to that one."""
    others = nodes[1:]
    rows = []
    for node in others:
        row = [0] * len(others)
        for piece in counts:
            if piece[:-1] == node:
                row[others.index(node)] += counts[piece]
                if piece[1:] in others:
                    row[others.index(piece[1:])] -= counts[piece]
        rows.append(row)
    return _determinant(rows)


def _determinant(rows):
    """The determinant of a square of integers whose leading squares have determinants above 0."""
    last = 1
    for place in range(len(rows)):
        pivot = rows[place][place]
        rows = [*rows[:place + 1], *[
            [(a * pivot - row[place] * b) // last for a, b in zip(row, rows[place])] for row in rows[place + 1:]]]
        last = pivot
    return last
