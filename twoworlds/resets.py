"""Rows that part states, that bring all to one, or behind which the state is known."""

from twoworlds.boxes import check_state, moves_of
from twoworlds.checks import is_list, is_one_of, is_pair
from twoworlds.quests import first_row_to

PARTED = "parted"


def parting_row(box, one, other):
    """The first row by which unlike signs come out of two states, or None."""
    check_state(box, one)
    check_state(box, other)
    moves = moves_of(box)

    def follow(pair, letter):
        first, second = moves[pair[0]][letter], moves[pair[1]][letter]
        if first[0] != second[0]:
            return PARTED
        return (first[1], second[1])
    return first_row_to((one, other), box.letters(), follow, lambda node: node == PARTED)


def alike_states(box):
    """The lists of alike states."""
    firsts = _first_alike(box)
    return [[state for state in firsts if firsts[state] == first] for first in firsts if firsts[first] == first]


def least_moves(box):
    """The moves of a box with the first ones of alike states alone."""
    firsts, moves = _first_alike(box), moves_of(box)
    return {state: {letter: (moves[state][letter][0], firsts[moves[state][letter][1]]) for letter in moves[state]}
            for state in firsts if firsts[state] == state}


def reset_row(box):
    """The first row that ends in one state, whichever it begins in, or None."""
    moves = moves_of(box)

    def follow(states, letter):
        return tuple(sorted({moves[state][letter][1] for state in states}))
    return first_row_to(tuple(sorted(moves)), box.letters(), follow, lambda states: len(states) == 1)


def keep(box):
    """A list of pairs of unlike states that stay pairs of unlike states by each letter, or None."""
    return _kept(box, False)


def is_keep(box, thing):
    """Whether any object is such a list."""
    return _is_kept(box, thing, False)


def now_row(box):
    """The first row behind which what came out tells the state, or None."""
    if blind_list(box) is not None:
        return None
    moves = moves_of(box)

    def follow(groups, letter):
        return tuple(sorted({part for group in groups for part in _split(moves, group, letter)}))
    states = tuple(sorted(moves))
    return first_row_to((states,) if len(states) > 1 else (), box.letters(), follow, lambda groups: len(groups) == 0)


def blind_list(box):
    """A keep in which each letter has the same sign come out of both states of a pair, or None."""
    return _kept(box, True)


def is_blind_list(box, thing):
    """Whether any object is such a keep."""
    return _is_kept(box, thing, True)


def _first_alike(box):
    """The dict from all states to the first one that is alike."""
    firsts = {}
    for state in box.states():
        found = [other for other in firsts if firsts[other] == other and parting_row(box, other, state) is None]
        firsts[state] = found[0] if len(found) > 0 else state
    return firsts


def _kept(box, is_blind):
    """All pairs of unlike states that stay such pairs, or None if there are none."""
    moves, states = moves_of(box), box.states()
    pairs = [(one, other) for place, one in enumerate(states) for other in states[place + 1:]]
    while True:
        inside = _both_ways(pairs)
        left = [pair for pair in pairs if _stays(moves, inside, pair, is_blind)]
        if len(left) == len(pairs):
            return left if len(left) > 0 else None
        pairs = left


def _is_kept(box, thing, is_blind):
    """Whether any object is a list of pairs of unlike states that stay in it."""
    if not is_list(thing) or len(thing) == 0:
        return False
    for pair in thing:
        if not is_pair(pair) or not all([is_one_of(box.states(), state) for state in pair]) or pair[0] == pair[1]:
            return False
    moves, inside = moves_of(box), _both_ways(thing)
    return all([_stays(moves, inside, pair, is_blind) for pair in thing])


def _both_ways(pairs):
    """A dict that has pairs as keys, either way round."""
    inside = {}
    for one, other in pairs:
        inside[(one, other)] = True
        inside[(other, one)] = True
    return inside


def _stays(moves, inside, pair, is_blind):
    """Whether each letter leads a pair to one inside; if blind, with the same signs."""
    for letter in moves[pair[0]]:
        first, second = moves[pair[0]][letter], moves[pair[1]][letter]
        if (first[1], second[1]) not in inside or is_blind and first[0] != second[0]:
            return False
    return True


def _split(moves, group, letter):
    """The groups of two or more states in which one may be by the signs that come out of a group."""
    parts = {}
    for state in group:
        sign, after = moves[state][letter]
        parts[sign] = {**parts.get(sign, {}), after: True}
    return [tuple(sorted(parts[sign])) for sign in parts if len(parts[sign]) > 1]
