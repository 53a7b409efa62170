"""Boxes behind one another, and beside one another."""

from twoworlds.boxes import moves_of
from twoworlds.errors import BadLink, UnlikeLetters


def linked_moves(one, other):
    """The moves of two boxes, the signs of the one being put into the other."""
    first, second = moves_of(one), moves_of(other)
    _check_signs(first, other.letters())
    return {f"{state}.{later}": {letter: _linked(first[state][letter], second[later]) for letter in first[state]}
            for state in first for later in second}


def beside_moves(one, other):
    """The moves of two boxes into which the same letters are put."""
    if one.letters() != other.letters():
        raise UnlikeLetters()
    first, second = moves_of(one), moves_of(other)
    return {f"{state}.{later}": {letter: _both(first[state][letter], second[later][letter]) for letter in first[state]}
            for state in first for later in second}


def _check_signs(moves, letters):
    """BadLink, if a sign that comes out is none of the letters."""
    for state in moves:
        for letter in moves[state]:
            sign = moves[state][letter][0]
            if sign not in letters:
                raise BadLink(sign)


def _linked(move, moves):
    """The move of two boxes behind one another, by the move of the first one."""
    sign, state = move
    out, later = moves[sign]
    return (out, f"{state}.{later}")


def _both(move, other):
    """The move of two boxes beside one another."""
    return (f"{move[0]}.{other[0]}", f"{move[1]}.{other[1]}")
