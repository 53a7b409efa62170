"""What questions tell, as sets; a set of questions is the integer of the bits of their places."""

from twoworlds.engine import told_by


class Minds:
    """Keeps what sets of questions of a field tell: it is asked for again and again."""

    def __init__(self, field):
        self._field = field
        self._names = field.questions()
        self._told = {}

    def set_of(self, names):
        """The set of some questions."""
        return sum([self.bit(name) for name in names])

    def bit(self, name):
        """The set of one question."""
        return 1 << self._names.index(name)

    def names_of(self, known):
        """The questions of a set, in their order."""
        return [name for place, name in enumerate(self._names) if known >> place & 1]

    def told(self, known):
        """The set of all that a set tells."""
        if known not in self._told:
            self._told[known] = self.set_of(told_by(self._field, self.names_of(known)))
        return self._told[known]

    def at_first(self, hands):
        """The dict from hands to the sets of what they know at first."""
        return {name: self.told(self.set_of(hands[name])) for name in hands}

    def at_last(self, now, links):
        """The same for what they come to know along links."""
        while True:
            after = now
            for one, other in links:
                after = {**after, other: self.told(after[one] | after[other])}
            if after == now:
                return now
            now = after
