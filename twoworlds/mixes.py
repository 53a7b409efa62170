"""Mixes: fields made of others that have nothing to do with one another."""

from twoworlds.checks import answers_or_none, are_worlds_apart, check_both, check_lacking, has_just, is_name
from twoworlds.errors import BadAnswers, BadPart, BadPlan, BadWorld


class Mix:
    """A field whose worlds are dicts of worlds, one of each part."""

    def __init__(self, parts):
        if not isinstance(parts, dict) or len(parts) == 0:
            raise BadPart(None)
        for name in parts:
            if not is_name(name):
                raise BadPart(name)
        self._parts = {name: parts[name] for name in parts}
        self._sources = {f"{name}.{question}": (name, question)
                         for name in parts for question in parts[name].questions()}

    def __eq__(self, other):
        if not isinstance(other, Mix):
            return False
        return list(self._parts.items()) == list(other._parts.items())

    def questions(self):
        """The questions of all parts, in order."""
        return list(self._sources)

    def home(self):
        """A world of each part."""
        return {name: self._parts[name].home() for name in self._parts}

    def answers(self, world):
        """All answers in the worlds of the parts."""
        if not has_just(world, self._parts):
            raise BadWorld(world)
        told = {name: answers_or_none(self._parts[name], world[name]) for name in self._parts}
        if None in [told[name] for name in told]:
            raise BadWorld(world)
        return {one: told[name][question] for one, (name, question) in self._sources.items()}

    def is_told(self, known, asked):
        """Whether known tells asked."""
        check_both(self._sources, known, asked)
        name, question = self._sources[asked]
        return self._parts[name].is_told(self._known_of(name, known), question)

    def plan(self, known, asked):
        """A plan of the part of asked, or None."""
        check_both(self._sources, known, asked)
        name, question = self._sources[asked]
        return self._parts[name].plan(self._known_of(name, known), question)

    def is_plan(self, known, asked, thing):
        """Whether any object is a plan of the part of asked."""
        check_both(self._sources, known, asked)
        name, question = self._sources[asked]
        return self._parts[name].is_plan(self._known_of(name, known), question, thing)

    def found(self, known, asked, plan, answers):
        """What a plan makes of the answers of the part of asked."""
        if not self.is_plan(known, asked, plan):
            raise BadPlan(plan)
        check_lacking(known, answers)
        name, question = self._sources[asked]
        own = {self._sources[one][1]: answers[one] for one in known if self._sources[one][0] == name}
        try:
            return self._parts[name].found(list(own), question, plan, own)
        except BadAnswers:
            # The part refuses its own answers; what is refused here is the whole.
            raise BadAnswers(answers) from None

    def apart(self, known, asked):
        """A pair of worlds that agree in known and part in asked, or None."""
        check_both(self._sources, known, asked)
        name, question = self._sources[asked]
        pair = self._parts[name].apart(self._known_of(name, known), question)
        if pair is None:
            return None
        return ({**self.home(), name: pair[0]}, {**self.home(), name: pair[1]})

    def are_apart(self, known, asked, thing):
        """Whether any object is such a pair of worlds."""
        check_both(self._sources, known, asked)
        return are_worlds_apart(self, known, asked, thing)

    def parts(self):
        """The dict of the fields."""
        return {name: self._parts[name] for name in self._parts}

    def _known_of(self, name, known):
        """The questions of one part that are known, in their order."""
        return [self._sources[one][1] for one in known if self._sources[one][0] == name]
