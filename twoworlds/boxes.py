"""Boxes: a letter is put in, a sign comes out, and the box is in a state again."""

from twoworlds.checks import alike, check_both, check_lacking, has_just, is_integer, is_list, is_name, is_one_of
from twoworlds.checks import is_pair, is_parted
from twoworlds.errors import BadAnswers, BadAsk, BadBox, BadPlan, BadPut, BadWorld, NoLetter, NoState


class Box:
    """A field whose worlds are the states of a box: the one in which it begins."""

    def __init__(self, moves, questions):
        _check_moves(moves)
        letters = list(moves[list(moves)[0]])
        _check_asks(list(moves), letters, questions)
        self._letters = letters
        self._moves = {state: {letter: (moves[state][letter][0], moves[state][letter][1]) for letter in letters}
                       for state in moves}
        self._asks = {name: _row_and_marks(list(moves), questions[name]) for name in questions}
        self._told = {state: {name: self._answer(state, name) for name in questions} for state in moves}

    def __eq__(self, other):
        if not isinstance(other, Box):
            return False
        if self.states() != other.states() or self._letters != other._letters or self._moves != other._moves:
            return False
        return list(self._asks.items()) == list(other._asks.items())

    def questions(self):
        """The questions, in order."""
        return list(self._asks)

    def home(self):
        """The first state."""
        return list(self._moves)[0]

    def answers(self, world):
        """All answers of a box that begins in a state."""
        if not is_one_of(self._moves, world):
            raise BadWorld(world)
        return {name: self._told[world][name] for name in self._asks}

    def is_told(self, known, asked):
        """Whether known tells asked."""
        check_both(self._asks, known, asked)
        return self._parting(known, asked) is None

    def plan(self, known, asked):
        """A list of cells, one for each tuple of answers to known, or None."""
        check_both(self._asks, known, asked)
        if self._parting(known, asked) is not None:
            return None
        return [(group, self._told[group[0]][asked]) for group in self._groups(known)]

    def is_plan(self, known, asked, thing):
        """Whether any object is a list of cells in which states stand that have one answer to asked."""
        check_both(self._asks, known, asked)
        if not is_list(thing) or not all([is_pair(cell) and is_list(cell[0]) and len(cell[0]) > 0 for cell in thing]):
            return False
        place_of = {}
        for place, (states, answer) in enumerate(thing):
            for state in states:
                if not is_one_of(self._moves, state) or state in place_of:
                    return False
                if not alike(self._told[state][asked], answer):
                    return False
                place_of[state] = place
        if len(place_of) < len(self._moves):
            return False
        return all([place_of[state] == place_of[group[0]] for group in self._groups(known) for state in group])

    def found(self, known, asked, plan, answers):
        """The answer of the cell in which the states stand that have these answers."""
        if not self.is_plan(known, asked, plan):
            raise BadPlan(plan)
        check_lacking(known, answers)
        for state in self._moves:
            if all([alike(self._told[state][name], answers[name]) for name in known]):
                return self._told[state][asked]
        raise BadAnswers(answers)

    def apart(self, known, asked):
        """A pair of states that agree in known and part in asked, or None."""
        check_both(self._asks, known, asked)
        return self._parting(known, asked)

    def are_apart(self, known, asked, thing):
        """Whether any object is such a pair of states."""
        check_both(self._asks, known, asked)
        if not is_pair(thing) or not all([is_one_of(self._moves, state) for state in thing]):
            return False
        return is_parted(self._told[thing[0]], self._told[thing[1]], known, asked)

    def states(self):
        """The states, in order."""
        return list(self._moves)

    def letters(self):
        """The letters, in order."""
        return list(self._letters)

    def move(self, state, letter):
        """The sign that comes out of a state by a letter, and the state that comes then."""
        check_state(self, state)
        if not is_one_of(self._letters, letter):
            raise NoLetter(letter)
        return self._moves[state][letter]

    def out(self, state, row):
        """The tuple of the signs that come out by a row."""
        self._check_put(state, row)
        return self._led(state, row)[0]

    def end(self, state, row):
        """The state in which a row ends."""
        self._check_put(state, row)
        return self._led(state, row)[1]

    def _check_put(self, state, row):
        """NoState, or BadPut, if row is no list of letters."""
        check_state(self, state)
        if not is_list(row):
            raise BadPut(0)
        for index, letter in enumerate(row):
            if not is_one_of(self._letters, letter):
                raise BadPut(index)

    def _led(self, state, row):
        """A pair of the signs that come out by a row and the state in which it ends."""
        signs = []
        for letter in row:
            sign, state = self._moves[state][letter]
            signs.append(sign)
        return (tuple(signs), state)

    def _answer(self, state, name):
        """The answer to a question if the box begins in a state."""
        row, marks = self._asks[name]
        signs, last = self._led(state, row)
        return signs if marks is None else marks[last]

    def _groups(self, known):
        """The lists of states that have the same answers to known."""
        groups = {}
        for state in self._moves:
            key = tuple([self._told[state][name] for name in known])
            groups[key] = [*groups.get(key, []), state]
        return [groups[key] for key in groups]

    def _parting(self, known, asked):
        """A pair of states that agree in known and part in asked, or None."""
        for group in self._groups(known):
            for state in group:
                if self._told[state][asked] != self._told[group[0]][asked]:
                    return (group[0], state)
        return None


def check_state(box, name):
    """NoState, if it is no state of a box."""
    if not is_one_of(box.states(), name):
        raise NoState(name)


def are_marks(states, thing):
    """Whether any object is a dict from just the states to integers."""
    return has_just(thing, states) and all([is_integer(thing[state]) for state in states])


def moves_of(box):
    """The dict from states to dicts from letters to signs and states."""
    return {state: {letter: box.move(state, letter) for letter in box.letters()} for state in box.states()}


def _check_moves(moves):
    """BadBox, if it is no dict from states to moves by the same letters."""
    if not isinstance(moves, dict) or len(moves) == 0:
        raise BadBox(None)
    letters = moves[list(moves)[0]]
    for state in moves:
        if not is_name(state) or not _are_moves(moves, letters, moves[state]):
            raise BadBox(state)


def _are_moves(moves, letters, thing):
    """Whether any object is a dict from just the letters of the first state to signs and states."""
    if not isinstance(letters, dict) or len(letters) == 0 or not all([is_name(letter) for letter in letters]):
        return False
    return has_just(thing, letters) and all([_is_move(moves, thing[letter]) for letter in letters])


def _is_move(moves, thing):
    """Whether any object is a pair of a sign and one of the states."""
    return is_pair(thing) and is_name(thing[0]) and is_name(thing[1]) and thing[1] in moves


def _check_asks(states, letters, questions):
    """BadAsk, if it is no dict from names to rows, or to pairs of a row and marks."""
    if not isinstance(questions, dict) or len(questions) == 0:
        raise BadAsk(None)
    for name in questions:
        thing = questions[name]
        if not is_name(name) or not (_is_row(letters, thing) or _is_marked(states, letters, thing)):
            raise BadAsk(name)


def _is_row(letters, thing):
    """Whether any object is a list of letters."""
    return is_list(thing) and all([is_one_of(letters, letter) for letter in thing])


def _is_marked(states, letters, thing):
    """Whether any object is a pair of a row and marks."""
    return is_pair(thing) and _is_row(letters, thing[0]) and are_marks(states, thing[1])


def _row_and_marks(states, thing):
    """The tuple of the letters of a question, and its marks, in the order of the states, or None."""
    if is_pair(thing) and isinstance(thing[1], dict):
        return (tuple(thing[0]), {state: thing[1][state] for state in states})
    return (tuple(thing), None)
