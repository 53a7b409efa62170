"""Codes and classes that go along words together.

A MACHINE is a pair (moves, marks): a dict from states to dicts from letters to pairs
(state, shown), and a dict from states to marks, or None for a code.
"""

from twoworlds.checks import is_list, is_one_of


class Crew:
    """The machines of known questions, in order, and behind them that of an asked one, if there is one.

    Spots, the tuples of their states, have numbers, as they come up: 0 is that of the empty word.
    """

    def __init__(self, letters, machines, asked):
        self._letters = letters
        self._machines = [*machines] if asked is None else [*machines, asked]
        self._known = len(machines)
        self._many_codes = len([marks for _, marks in machines if marks is None])
        self._spots, self._numbers, self._moves = [], {}, {}
        self._marks, self._asked_marks = [], []
        self.number(tuple([list(moves)[0] for moves, _ in self._machines]))

    def letters(self):
        """The letters, as one string."""
        return self._letters

    def number(self, spot):
        """The number of a spot."""
        if spot not in self._numbers:
            self._numbers[spot] = len(self._spots)
            self._spots.append(spot)
            self._marks.append(self._marks_of(self._machines[:self._known], spot))
            self._asked_marks.append(self._marks_of(self._machines[self._known:], spot[self._known:]))
        return self._numbers[spot]

    def spot(self, number):
        """The spot with a number."""
        return self._spots[number]

    def moves(self, number):
        """For each letter, a triple of the number behind it, what the known ones show, and what the asked one does."""
        if number not in self._moves:
            self._moves[number] = [self._move(self._spots[number], letter) for letter in self._letters]
        return self._moves[number]

    def marks(self, number):
        """The marks of the known classes at a spot."""
        return self._marks[number]

    def asked_marks(self, number):
        """The mark of the asked class at a spot, as a tuple; an empty one for a code."""
        return self._asked_marks[number]

    def asks_class(self):
        """Whether a class is asked."""
        return self._machines[-1][1] is not None

    def told(self, word):
        """What the asked machine tells of a word."""
        number, told = 0, ""
        for letter in word:
            number, _, more = self.moves(number)[self._letters.index(letter)]
            told += more
        return self.asked_marks(number)[0] if self.asks_class() else told

    def many_codes(self):
        """The number of the known codes, and so of the signs of a symbol."""
        return self._many_codes

    def many_classes(self):
        """The number of the known classes."""
        return self._known - self._many_codes

    def symbols(self, shown):
        """The symbols of what is shown."""
        many = self._many_codes
        return [shown[at:at + many] for at in range(0, len(shown), max(1, many))]

    def is_spot(self, thing):
        """Whether any object is a list of states, one of each machine."""
        if not is_list(thing) or len(thing) != len(self._machines):
            return False
        return all([is_one_of(moves, state) for (moves, _), state in zip(self._machines, thing)])

    def _move(self, spot, letter):
        """The number behind a letter, and what is shown for it by the known ones, and by the asked one."""
        moved = [moves[state][letter] for (moves, _), state in zip(self._machines, spot)]
        shown = [move[1] for move in moved]
        number = self.number(tuple([move[0] for move in moved]))
        return (number, "".join(shown[:self._known]), "".join(shown[self._known:]))

    def _marks_of(self, machines, spot):
        """The marks of the classes among some machines."""
        return tuple([marks[state] for (_, marks), state in zip(machines, spot) if marks is not None])
