"""Bundles: fields whose questions are bundles of questions of a field."""

from twoworlds.checks import alike, are_worlds_apart, check_both, check_lacking, first_bad, is_list, is_name
from twoworlds.errors import BadAnswers, BadBundle, BadPlan


class Bundles:
    """A field in which the answer to a bundle is the tuple of the answers to its questions."""

    def __init__(self, field, bundles):
        if not isinstance(bundles, dict) or len(bundles) == 0:
            raise BadBundle(None)
        questions = field.questions()
        for name in bundles:
            if not is_name(name) or first_bad(questions, bundles[name]) is not None or len(bundles[name]) == 0:
                raise BadBundle(name)
        self._field = field
        self._bundles = {name: list(bundles[name]) for name in bundles}

    def __eq__(self, other):
        if not isinstance(other, Bundles):
            return False
        return list(self._bundles.items()) == list(other._bundles.items()) and self._field == other._field

    def questions(self):
        """The names of the bundles, in order."""
        return list(self._bundles)

    def home(self):
        """A world of the field."""
        return self._field.home()

    def answers(self, world):
        """The tuples of answers to all bundles in a world of the field."""
        told = self._field.answers(world)
        return {name: tuple([told[question] for question in self._bundles[name]]) for name in self._bundles}

    def is_told(self, known, asked):
        """Whether known tells asked."""
        check_both(self._bundles, known, asked)
        meant = self._meant(known)
        return all([self._field.is_told(meant, question) for question in self._bundles[asked]])

    def plan(self, known, asked):
        """A list of plans of the field, one for each question of asked, or None."""
        if not self.is_told(known, asked):
            return None
        return [self._field.plan(self._meant(known), question) for question in self._bundles[asked]]

    def is_plan(self, known, asked, thing):
        """Whether any object is such a list of plans."""
        check_both(self._bundles, known, asked)
        if not is_list(thing) or len(thing) != len(self._bundles[asked]):
            return False
        meant = self._meant(known)
        return all([self._field.is_plan(meant, question, plan) for question, plan in zip(self._bundles[asked], thing)])

    def found(self, known, asked, plan, answers):
        """The tuple of what plans make of answers."""
        if not self.is_plan(known, asked, plan):
            raise BadPlan(plan)
        check_lacking(known, answers)
        told = self._told_singly(known, answers)
        try:
            return tuple([self._field.found(list(told), question, one, told)
                          for question, one in zip(self._bundles[asked], plan)])
        except BadAnswers:
            # The field refuses single answers; what is refused here is the whole.
            raise BadAnswers(answers) from None

    def apart(self, known, asked):
        """A pair of worlds of the field that agree in known and part in asked, or None."""
        check_both(self._bundles, known, asked)
        meant = self._meant(known)
        for question in self._bundles[asked]:
            pair = self._field.apart(meant, question)
            if pair is not None:
                return pair
        return None

    def are_apart(self, known, asked, thing):
        """Whether any object is such a pair of worlds of the field."""
        check_both(self._bundles, known, asked)
        return are_worlds_apart(self, known, asked, thing)

    def bundles(self):
        """The dict from the names to the lists of questions."""
        return {name: list(self._bundles[name]) for name in self._bundles}

    def _meant(self, known):
        """The questions that stand in known bundles, each once, as they come first."""
        meant = {}
        for name in known:
            for question in self._bundles[name]:
                meant[question] = True
        return list(meant)

    def _told_singly(self, known, answers):
        """The dict from these questions to their answers; BadAnswers, if these are too few, too many, or unlike."""
        told = {}
        for name in known:
            if not is_list(answers[name]) or len(answers[name]) != len(self._bundles[name]):
                raise BadAnswers(answers)
            for question, answer in zip(self._bundles[name], answers[name]):
                if question in told and not alike(told[question], answer):
                    raise BadAnswers(answers)
                told[question] = answer
        return told
