"""Answers of sums: the worlds that have them, and why none has."""

from twoworlds.chains import clashing, dict_of, dot, is_multiple, reduced, remainder, settled, step_of
from twoworlds.checks import check_asked, is_fraction, is_integer, is_one_of
from twoworlds.errors import BadAnswers
from twoworlds.sums import common_bottom, links_of, rungs_of, side_of


def world_of(sums, answers):
    """A world that has answers, or None."""
    check_answers(sums, answers)
    vector = _vector(sums, answers)
    if vector is None:
        return None
    return dict_of(sums.unknowns(), vector)


def clash(sums, answers):
    """Weights by which answers clash, or None."""
    check_answers(sums, answers)
    links, place, gap = _settled(sums, answers)[1:]
    if place is None:
        return None
    weights = dict(zip(list(answers)[:place + 1], clashing(links, place, gap)))
    return {name: weights[name] for name in sums.questions() if name in weights and weights[name][0] != 0}


def is_clash(sums, answers, thing):
    """Whether any object is a clash of answers."""
    check_answers(sums, answers)
    if not isinstance(thing, dict):
        return False
    if not all([is_one_of(answers, name) and is_fraction(thing[name]) for name in thing]):
        return False
    bottom = common_bottom(thing)
    made = [0] * len(sums.unknowns())
    answered = 0
    for name in thing:
        row, modulus = side_of(sums, name)
        top, under = thing[name]
        if top * modulus % under != 0:
            return False
        times = top * (bottom // under)
        made = [a + times * b for a, b in zip(made, row)]
        answered += times * answers[name]
    return all([is_multiple(number, bottom) for number in made]) and not is_multiple(answered, bottom)


def may_be(sums, answers, asked):
    """The pair (rest, step) of what asked comes to in all worlds that have answers, or None."""
    check_answers(sums, answers)
    check_asked(sums.questions(), asked)
    vector = _vector(sums, answers)
    if vector is None:
        return None
    row, modulus = side_of(sums, asked)
    by = step_of(rungs_of(sums, list(answers)), (row, modulus))
    return (remainder(dot(row, vector), modulus if by == 0 else by), by)


def check_answers(sums, thing):
    """BadAnswers, if any object is no dict from questions to integers that they can have."""
    if not isinstance(thing, dict):
        raise BadAnswers(thing)
    for name in thing:
        if not is_one_of(sums.questions(), name) or not is_integer(thing[name]):
            raise BadAnswers(thing)
        modulus = sums.row(name)[1]
        if modulus != 0 and not 0 <= thing[name] < modulus:
            raise BadAnswers(thing)


def _settled(sums, answers):
    """A quadruple of a vector, the links, and the place and the gap where answers can not be had."""
    links = links_of(sums, list(answers))[0]
    vector, place, gap = settled(len(sums.unknowns()), links, [answers[name] for name in answers])
    return (vector, links, place, gap)


def _vector(sums, answers):
    """The integers of a world that has answers, or None."""
    vector, _, place, _ = _settled(sums, answers)
    if place is not None:
        return None
    return reduced(vector, rungs_of(sums, list(answers)))
