"""Views: fields with other names for the questions of a field."""

from twoworlds.checks import alike, check_both, check_lacking, is_name, is_one_of
from twoworlds.errors import BadAnswers, BadPlan, BadView


class View:
    """A field with other names; several names may stand for one question."""

    def __init__(self, field, names):
        if not isinstance(names, dict) or len(names) == 0:
            raise BadView(None)
        questions = field.questions()
        for name in names:
            if not is_name(name) or not is_one_of(questions, names[name]):
                raise BadView(name)
        self._field = field
        self._names = {name: names[name] for name in names}

    def __eq__(self, other):
        if not isinstance(other, View):
            return False
        return list(self._names.items()) == list(other._names.items()) and self._field == other._field

    def questions(self):
        """The names, in order."""
        return list(self._names)

    def home(self):
        """A world of the field."""
        return self._field.home()

    def answers(self, world):
        """All answers in a world of the field, under their names here."""
        told = self._field.answers(world)
        return {name: told[self._names[name]] for name in self._names}

    def is_told(self, known, asked):
        """Whether known tells asked."""
        check_both(self._names, known, asked)
        return self._field.is_told(self._meant(known), self._names[asked])

    def plan(self, known, asked):
        """A plan of the field, or None."""
        check_both(self._names, known, asked)
        return self._field.plan(self._meant(known), self._names[asked])

    def is_plan(self, known, asked, thing):
        """Whether any object is a plan of the field."""
        check_both(self._names, known, asked)
        return self._field.is_plan(self._meant(known), self._names[asked], thing)

    def found(self, known, asked, plan, answers):
        """What a plan makes of answers."""
        if not self.is_plan(known, asked, plan):
            raise BadPlan(plan)
        check_lacking(known, answers)
        meant = {}
        for name in known:
            question = self._names[name]
            if question in meant and not alike(meant[question], answers[name]):
                raise BadAnswers(answers)
            meant[question] = answers[name]
        try:
            return self._field.found(list(meant), self._names[asked], plan, meant)
        except BadAnswers:
            # The field refuses its own questions; what is refused here is what was passed.
            raise BadAnswers(answers) from None

    def apart(self, known, asked):
        """A pair of worlds of the field that agree in known and part in asked, or None."""
        check_both(self._names, known, asked)
        return self._field.apart(self._meant(known), self._names[asked])

    def are_apart(self, known, asked, thing):
        """Whether any object is such a pair of worlds of the field."""
        check_both(self._names, known, asked)
        return self._field.are_apart(self._meant(known), self._names[asked], thing)

    def names(self):
        """The dict from the names to the questions of the field."""
        return {name: self._names[name] for name in self._names}

    def _meant(self, known):
        """The questions that known stands for, each once, in the order of the first names."""
        meant = {}
        for name in known:
            meant[self._names[name]] = True
        return list(meant)
