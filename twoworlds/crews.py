"""Codes and classes that go along words together.

A MACHINE is a pair (moves, marks): a dict from states to dicts from letters to pairs
(state, shown), and a dict from states to marks, or None for a code.
"""


class Crew:
    """The machines of known questions, in order, and behind them that of an asked one, if there is one."""

    def __init__(self, letters, machines, asked):
        self._letters = letters
        self._machines = [*machines] if asked is None else [*machines, asked]
        self._known = len(machines)
        self._many_codes = len([marks for _, marks in machines if marks is None])
        self._gone = {}

    def letters(self):
        """The letters, as one string."""
        return self._letters

    def begin(self):
        """The spot of the empty word."""
        return tuple([list(moves)[0] for moves, _ in self._machines])

    def go(self, spot, letter):
        """A triple of the spot behind a letter, what the known ones show for it, and what the asked one shows."""
        key = (spot, letter)
        if key not in self._gone:
            moved = [moves[state][letter] for (moves, _), state in zip(self._machines, spot)]
            shown = [move[1] for move in moved]
            after = tuple([move[0] for move in moved])
            self._gone[key] = (after, "".join(shown[:self._known]), "".join(shown[self._known:]))
        return self._gone[key]

    def marks(self, spot):
        """The marks of the known classes at a spot."""
        return self._marks_of(self._machines[:self._known], spot)

    def asked_marks(self, spot):
        """The mark of the asked class at a spot, as a tuple; an empty one for a code."""
        return self._marks_of(self._machines[self._known:], spot[self._known:])

    def asks_class(self):
        """Whether a class is asked."""
        return self._machines[-1][1] is not None

    def told(self, word):
        """What the asked machine tells of a word."""
        spot, told = self.begin(), ""
        for letter in word:
            spot, _, more = self.go(spot, letter)
            told += more
        return self.asked_marks(spot)[0] if self.asks_class() else told

    def many_codes(self):
        """The number of the known codes, and so of the signs of a symbol."""
        return self._many_codes

    def many_classes(self):
        """The number of the known classes."""
        return self._known - self._many_codes

    def symbols(self, shown):
        """The symbols of what is shown."""
        many = self._many_codes
        return [shown[at:at + many] for at in range(0, len(shown), max(1, many))]

    def is_spot(self, thing):
        """Whether any object is a list of states, one of each machine."""
        if not isinstance(thing, (list, tuple)) or len(thing) != len(self._machines):
            return False
        return all([isinstance(state, str) and state in moves for (moves, _), state in zip(self._machines, thing)])

    def _marks_of(self, machines, spot):
        """The marks of the classes among some machines."""
        return tuple([marks[state] for (_, marks), state in zip(machines, spot) if marks is not None])
