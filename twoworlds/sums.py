"""Sums of whole numbers that nobody has seen."""

from math import gcd

from twoworlds.chains import chain_of, dict_of, dot, is_multiple, narrowed, parting_rung
from twoworlds.chains import remainder, step_of, vector_of, weights_of
from twoworlds.checks import check_asked, check_both, check_lacking, first_no_name, has_just
from twoworlds.checks import is_fraction, is_integer, is_name, is_one_of, is_pair, is_parted
from twoworlds.errors import BadAnswers, BadNumber, BadPlan, BadSum, BadUnknown, BadWorld


class Sums:
    """A field of sums of unknowns, its worlds being all dicts from these to integers."""

    def __init__(self, unknowns, questions):
        index = first_no_name(unknowns)
        if index is not None:
            raise BadUnknown(index)
        if not isinstance(questions, dict) or len(questions) == 0:
            raise BadSum(None)
        for name in questions:
            if not is_name(name) or not _is_side(unknowns, questions[name]):
                raise BadSum(name)
        self._unknowns = list(unknowns)
        self._sides = {name: (vector_of(unknowns, questions[name][0]), questions[name][1]) for name in questions}

    def __eq__(self, other):
        if not isinstance(other, Sums):
            return False
        return self._unknowns == other._unknowns and list(self._sides.items()) == list(other._sides.items())

    def questions(self):
        """The questions, in order."""
        return list(self._sides)

    def home(self):
        """The world in which all unknowns are 0."""
        return {name: 0 for name in self._unknowns}

    def answers(self, world):
        """All answers in a world."""
        if not self._is_world(world):
            raise BadWorld(world)
        vector = vector_of(self._unknowns, world)
        return {name: remainder(dot(row, vector), modulus) for name, (row, modulus) in self._sides.items()}

    def is_told(self, known, asked):
        """Whether known tells asked."""
        check_both(self._sides, known, asked)
        return self._parting(known, asked) is None

    def plan(self, known, asked):
        """A dict from questions of known to their weights, or None."""
        check_both(self._sides, known, asked)
        if self._parting(known, asked) is not None:
            return None
        row, modulus = self._sides[asked]
        weights = weights_of(self._chain(known)[0], row, 1, modulus)
        return {name: weight for name, weight in zip(known, weights) if weight[0] != 0}

    def is_plan(self, known, asked, thing):
        """Whether any object is a dict of weights that make asked."""
        check_both(self._sides, known, asked)
        if not isinstance(thing, dict):
            return False
        if not all([is_one_of(known, name) and is_fraction(thing[name]) for name in thing]):
            return False
        row, modulus = self._sides[asked]
        if not all([self._has_unit(name, thing[name], modulus) for name in thing]):
            return False
        weighed, bottom = self._weighed(thing)
        return all([is_multiple(made - bottom * number, bottom * modulus) for made, number in zip(weighed, row)])

    def found(self, known, asked, plan, answers):
        """What the weights of a plan make of answers."""
        if not self.is_plan(known, asked, plan):
            raise BadPlan(plan)
        check_lacking(known, answers)
        if not all([is_integer(answers[name]) for name in plan]):
            raise BadAnswers(answers)
        bottom = common_bottom(plan)
        top = sum([plan[name][0] * (bottom // plan[name][1]) * answers[name] for name in plan])
        if top % bottom != 0:
            raise BadAnswers(answers)
        return remainder(top // bottom, self._sides[asked][1])

    def apart(self, known, asked):
        """A pair of worlds that agree in known and part in asked, or None."""
        check_both(self._sides, known, asked)
        rung = self._parting(known, asked)
        if rung is None:
            return None
        return (self.home(), dict_of(self._unknowns, rung))

    def are_apart(self, known, asked, thing):
        """Whether any object is such a pair of worlds."""
        check_both(self._sides, known, asked)
        if not is_pair(thing) or not self._is_world(thing[0]) or not self._is_world(thing[1]):
            return False
        return is_parted(self.answers(thing[0]), self.answers(thing[1]), known, asked)

    def unknowns(self):
        """The unknowns, in order."""
        return list(self._unknowns)

    def row(self, name):
        """The pair (row, modulus) of a question, the row without zeros."""
        check_asked(self._sides, name)
        vector, modulus = self._sides[name]
        return ({unknown: number for unknown, number in zip(self._unknowns, vector) if number != 0}, modulus)

    def _is_world(self, thing):
        """Whether any object is a dict from just all unknowns to integers."""
        return has_just(thing, self._unknowns) and all([is_integer(thing[name]) for name in self._unknowns])

    def _chain(self, known):
        """The links and the rungs of some questions."""
        return chain_of(len(self._unknowns), [self._sides[name] for name in known])

    def _parting(self, known, asked):
        """A list of integers by which known stays and asked does not, or None."""
        return parting_rung(self._chain(known)[1], self._sides[asked])

    def _has_unit(self, name, weight, modulus):
        """Whether a weight lets the remainders of its question stand for its sums."""
        top, bottom = weight
        return is_multiple(top * self._sides[name][1], bottom * modulus)

    def _weighed(self, weights):
        """The rows times weights, summed up, as a list over a bottom."""
        bottom = common_bottom(weights)
        out = [0] * len(self._unknowns)
        for name in weights:
            times = weights[name][0] * (bottom // weights[name][1])
            out = [made + times * number for made, number in zip(out, self._sides[name][0])]
        return (out, bottom)


def step(sums, known, asked):
    """The least difference of asked in two worlds that agree in known, 0 if it is told."""
    check_both(sums.questions(), known, asked)
    return step_of(rungs_of(sums, known), side_of(sums, asked))


def parted(sums, known, asked, much):
    """A pair of worlds that agree in known, asked being greater by much in the second one, or None."""
    check_both(sums.questions(), known, asked)
    if not is_integer(much):
        raise BadNumber(much)
    side = side_of(sums, asked)
    _, lead, worth = narrowed(rungs_of(sums, known), side)
    if not is_multiple(much, worth):
        return None
    times = 0 if worth == 0 else much // worth
    return (sums.home(), dict_of(sums.unknowns(), [times * number for number in lead]))


def helps(sums, known, asked):
    """The dict from all questions that are not known to the step of asked if this one is known, too."""
    check_both(sums.questions(), known, asked)
    rungs, side = rungs_of(sums, known), side_of(sums, asked)
    return {name: step_of(narrowed(rungs, side_of(sums, name))[0], side)
            for name in sums.questions() if name not in known}


def side_of(sums, name):
    """The side of a question, the row being a list."""
    row, modulus = sums.row(name)
    return (vector_of(sums.unknowns(), row), modulus)


def links_of(sums, known):
    """The pair of the links and the rungs of some questions."""
    return chain_of(len(sums.unknowns()), [side_of(sums, name) for name in known])


def rungs_of(sums, known):
    """The rungs of some questions."""
    return links_of(sums, known)[1]


def common_bottom(weights):
    """The least common bottom of the fractions of a dict."""
    bottom = 1
    for name in weights:
        under = weights[name][1]
        bottom = bottom * (under // gcd(bottom, under))
    return bottom


def _is_side(unknowns, thing):
    """Whether any object is a pair of a row and a modulus."""
    if not is_pair(thing) or not is_row(unknowns, thing[0]) or not is_integer(thing[1]):
        return False
    return thing[1] == 0 or thing[1] >= 2


def is_row(unknowns, thing):
    """Whether any object is a dict from unknowns to integers."""
    if not isinstance(thing, dict):
        return False
    return all([is_one_of(unknowns, name) and is_integer(thing[name]) for name in thing])
