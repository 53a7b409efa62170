"""Shares: sums all of which are remainders of one prime."""

from twoworlds.chains import chain_of, dict_of, dot, parting_rung, settled, vector_of, weights_of
from twoworlds.checks import check_asked, check_both, check_lacking, first_no_name, has_just
from twoworlds.checks import is_count, is_integer, is_list, is_name, is_one_of, is_pair, is_parted
from twoworlds.errors import BadAnswers, BadHolder, BadNumber, BadPlan, BadPrime, BadSum, BadUnknown, BadWorld
from twoworlds.sums import is_row

GREATEST_PRIME = 997
SECRET = "secret"


class Shares:
    """A field of sums of unknowns, its worlds being all dicts from these to remainders of a prime."""

    def __init__(self, prime, unknowns, questions):
        _check_prime(prime)
        index = first_no_name(unknowns)
        if index is not None:
            raise BadUnknown(index)
        if not isinstance(questions, dict) or len(questions) == 0:
            raise BadSum(None)
        for name in questions:
            if not is_name(name) or not is_row(unknowns, questions[name]):
                raise BadSum(name)
        self.prime = prime
        self._unknowns = list(unknowns)
        self._vectors = {name: [number % prime for number in vector_of(unknowns, questions[name])]
                         for name in questions}

    def __eq__(self, other):
        if not isinstance(other, Shares):
            return False
        if self.prime != other.prime or self._unknowns != other._unknowns:
            return False
        return list(self._vectors.items()) == list(other._vectors.items())

    def questions(self):
        """The questions, in order."""
        return list(self._vectors)

    def home(self):
        """The world in which all unknowns are 0."""
        return {name: 0 for name in self._unknowns}

    def answers(self, world):
        """All answers in a world."""
        if not self._is_world(world):
            raise BadWorld(world)
        vector = vector_of(self._unknowns, world)
        return {name: dot(self._vectors[name], vector) % self.prime for name in self._vectors}

    def is_told(self, known, asked):
        """Whether known tells asked."""
        check_both(self._vectors, known, asked)
        return self._parting(known, asked) is None

    def plan(self, known, asked):
        """A dict from questions of known to what they are taken times, or None."""
        check_both(self._vectors, known, asked)
        if self._parting(known, asked) is not None:
            return None
        # All moduli being one prime, these weights are whole numbers.
        weights = weights_of(self._chain(known)[0], self._vectors[asked], 1, self.prime)
        return {name: weight[0] for name, weight in zip(known, weights) if weight[0] != 0}

    def is_plan(self, known, asked, thing):
        """Whether any object is a dict of weights that make asked."""
        check_both(self._vectors, known, asked)
        if not isinstance(thing, dict):
            return False
        if not all([is_one_of(known, name) and is_integer(thing[name]) for name in thing]):
            return False
        if not all([0 < thing[name] < self.prime for name in thing]):
            return False
        rest = self._vectors[asked]
        for name in thing:
            rest = [left - thing[name] * number for left, number in zip(rest, self._vectors[name])]
        return all([number % self.prime == 0 for number in rest])

    def found(self, known, asked, plan, answers):
        """What the weights of a plan make of answers."""
        if not self.is_plan(known, asked, plan):
            raise BadPlan(plan)
        check_lacking(known, answers)
        if not all([is_integer(answers[name]) for name in plan]):
            raise BadAnswers(answers)
        return sum([plan[name] * answers[name] for name in plan]) % self.prime

    def apart(self, known, asked):
        """A pair of worlds that agree in known and part in asked, or None."""
        check_both(self._vectors, known, asked)
        rung = self._parting(known, asked)
        if rung is None:
            return None
        return (self.home(), dict_of(self._unknowns, [number % self.prime for number in rung]))

    def are_apart(self, known, asked, thing):
        """Whether any object is such a pair of worlds."""
        check_both(self._vectors, known, asked)
        if not is_pair(thing) or not self._is_world(thing[0]) or not self._is_world(thing[1]):
            return False
        return is_parted(self.answers(thing[0]), self.answers(thing[1]), known, asked)

    def unknowns(self):
        """The unknowns, in order."""
        return list(self._unknowns)

    def row(self, name):
        """The row of a question, its integers being remainders above 0."""
        check_asked(self._vectors, name)
        return {unknown: number for unknown, number in zip(self._unknowns, self._vectors[name]) if number != 0}

    def _is_world(self, thing):
        """Whether any object is a dict from just all unknowns to remainders."""
        if not has_just(thing, self._unknowns):
            return False
        return all([is_integer(thing[name]) and 0 <= thing[name] < self.prime for name in self._unknowns])

    def _chain(self, known):
        """The links and the rungs of some questions."""
        return chain_of(len(self._unknowns), [(self._vectors[name], self.prime) for name in known])

    def _parting(self, known, asked):
        """A list of integers by which known stays and asked does not, or None."""
        return parting_rung(self._chain(known)[1], (self._vectors[asked], self.prime))


def world_count(shares, answers):
    """The number of worlds that have answers."""
    _check_answers(shares, answers)
    return _counted(shares, answers)[0]


def spread(shares, answers, asked):
    """In how many worlds that have answers asked has each answer, from 0 on."""
    _check_answers(shares, answers)
    check_asked(shares.questions(), asked)
    count, vector, rungs = _counted(shares, answers)
    prime = shares.prime
    row = vector_of(shares.unknowns(), shares.row(asked))
    if count == 0 or parting_rung(rungs, (row, prime)) is not None:
        return [count // prime] * prime
    answer = dot(row, vector) % prime
    return [count if number == answer else 0 for number in range(prime)]


def handed_out(prime, holders, least):
    """The shares of a secret, such that each so many holders know it, and fewer do not."""
    _check_prime(prime)
    _check_holders(prime, holders)
    if not is_count(least) or not 1 <= least <= len(holders):
        raise BadNumber(least)
    unknowns = [f"c{place}" for place in range(least)]
    questions = {SECRET: {"c0": 1}}
    for at, name in enumerate(holders, start=1):
        power, row = 1, {}
        for unknown in unknowns:
            row[unknown] = power
            power = power * at % prime
        questions[name] = row
    return Shares(prime, unknowns, questions)


def _check_prime(thing):
    """BadPrime, if any object is no prime from 2 on that may be taken."""
    if not is_integer(thing) or not 2 <= thing <= GREATEST_PRIME:
        raise BadPrime(thing)
    if any([thing % divisor == 0 for divisor in range(2, thing)]):
        raise BadPrime(thing)


def _check_holders(prime, holders):
    """BadHolder, if holders are no list of unlike names that the prime has room for."""
    if not is_list(holders) or len(holders) == 0:
        raise BadHolder(0)
    seen = {SECRET: True}
    for index, name in enumerate(holders):
        if not is_name(name) or name in seen or index == prime - 1:
            raise BadHolder(index)
        seen[name] = True


def _check_answers(shares, thing):
    """BadAnswers, if any object is no dict from questions to remainders."""
    if not isinstance(thing, dict):
        raise BadAnswers(thing)
    for name in thing:
        if not is_one_of(shares.questions(), name) or not is_integer(thing[name]):
            raise BadAnswers(thing)
        if not 0 <= thing[name] < shares.prime:
            raise BadAnswers(thing)


def _counted(shares, answers):
    """A triple of the number of worlds that have answers, one of them as a list, and the rungs."""
    unknowns = shares.unknowns()
    sides = [(vector_of(unknowns, shares.row(name)), shares.prime) for name in answers]
    links, rungs = chain_of(len(unknowns), sides)
    vector, place, _ = settled(len(unknowns), links, [answers[name] for name in answers])
    if place is not None:
        return (0, vector, rungs)
    # A link whose worth is 1 takes one unknown's freedom, one whose worth is the prime says nothing new.
    free = len(unknowns) - len([link for link in links if link[2] == 1])
    count = 1
    for _ in range(free):
        count = count * shares.prime
    return (count, vector, rungs)
