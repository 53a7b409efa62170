"""Pieces of rings of letters."""

from twoworlds.chains import dot, lowest
from twoworlds.checks import check_both, check_counts, check_letters, is_fraction, is_list, is_one_of, is_pair
from twoworlds.checks import is_parted, is_word
from twoworlds.errors import BadPiece, BadPlan, BadWorld
from twoworlds.lines import parting_line, weights_for
from twoworlds.sums import common_bottom
from twoworlds.turns import number_of, ring_from
from twoworlds.walks import either_way, reached, ring_through

LONGEST_PIECE = 3


class Pieces:
    """A field whose worlds are rings; the answer to a piece is at how many places it stands."""

    def __init__(self, letters, pieces):
        check_letters(letters)
        _check_pieces(letters, pieces)
        self._letters = letters
        self._loops = _loops_of(_words_of(letters, max([len(piece) for piece in pieces])))
        self._rows = {piece: [_more_of(loop, piece) for loop in self._loops] for piece in pieces}

    def __eq__(self, other):
        if not isinstance(other, Pieces):
            return False
        return self._letters == other._letters and list(self._rows) == list(other._rows)

    def questions(self):
        """The pieces, in order."""
        return list(self._rows)

    def home(self):
        """The ring of the first letter alone."""
        return self._letters[0]

    def answers(self, world):
        """The numbers of all pieces in a ring."""
        if not is_word(self._letters, world):
            raise BadWorld(world)
        return {piece: number_of(world, piece) for piece in self._rows}

    def is_told(self, known, asked):
        """Whether known tells asked."""
        return self._fractions(known, asked) is not None

    def plan(self, known, asked):
        """A dict from known pieces to fractions, or None."""
        weights = self._fractions(known, asked)
        if weights is None:
            return None
        return {piece: weight for piece, weight in zip(known, weights) if weight[0] != 0}

    def is_plan(self, known, asked, thing):
        """Whether any object is a dict of fractions that make asked in each ring."""
        check_both(self._rows, known, asked)
        if not isinstance(thing, dict):
            return False
        if not all([is_one_of(known, piece) and is_fraction(thing[piece]) for piece in thing]):
            return False
        if not all([thing[piece][0] != 0 for piece in thing]):
            return False
        bottom = common_bottom(thing)
        return all([_weighed(thing, bottom, {piece: self._rows[piece][place] for piece in thing}) == bottom * number
                    for place, number in enumerate(self._rows[asked])])

    def found(self, known, asked, plan, answers):
        """What the fractions of a plan make of answers: an integer, or a fraction if no ring has them."""
        if not self.is_plan(known, asked, plan):
            raise BadPlan(plan)
        check_counts(known, answers)
        bottom = common_bottom(plan)
        top, under = lowest(_weighed(plan, bottom, answers), bottom)
        return top if under == 1 else (top, under)

    def apart(self, known, asked):
        """A pair of rings that agree in known and part in asked, or None."""
        check_both(self._rows, known, asked)
        line = parting_line([self._rows[piece] for piece in known], self._rows[asked])
        if line is None:
            return None
        words = sorted({word for loop in self._loops for word in loop})
        more = {word: dot(line, [loop.get(word, 0) for loop in self._loops]) for word in words}
        # With all words there, steps lead from each to each.
        least = 1 + max([0, *[-more[word] for word in words]])
        return (ring_from(self._letters, {word: least for word in words}),
                ring_from(self._letters, {word: least + more[word] for word in words}))

    def are_apart(self, known, asked, thing):
        """Whether any object is such a pair of rings."""
        check_both(self._rows, known, asked)
        if not is_pair(thing) or not all([is_word(self._letters, ring) for ring in thing]):
            return False
        return is_parted(self.answers(thing[0]), self.answers(thing[1]), known, asked)

    def letters(self):
        """The letters, as one string."""
        return self._letters

    def _fractions(self, known, asked):
        """The fractions, one for each known piece, that make asked, or None."""
        check_both(self._rows, known, asked)
        return weights_for([self._rows[piece] for piece in known], self._rows[asked])


def _check_pieces(letters, pieces):
    """BadPiece, if it is no list of unlike pieces."""
    if not is_list(pieces) or len(pieces) == 0:
        raise BadPiece(0)
    seen = {}
    for index, piece in enumerate(pieces):
        if not is_word(letters, piece) or len(piece) > LONGEST_PIECE or piece in seen:
            raise BadPiece(index)
        seen[piece] = True


def _words_of(letters, many):
    """All words of so many letters."""
    words = [""]
    for _ in range(many):
        words = [word + letter for word in words for letter in letters]
    return words


def _loops_of(words):
    """Dicts from words to how many more there are of them; all ways to have more and less of words in rings
    are sums of these, times fractions."""
    arcs = {word: (word[:-1], word[1:]) for word in words}
    found = reached(either_way(arcs, words), words[0][:-1])
    tree = [found[node][0] for node in found if found[node] is not None]
    return [{step[0]: step[1] for step in ring_through(arcs, tree, word)} for word in words if word not in tree]


def _more_of(loop, piece):
    """How many more there are of a piece by a loop."""
    return sum([loop[word] for word in loop if word.startswith(piece)])


def _weighed(weights, bottom, numbers):
    """Numbers times weights, summed up, over a common bottom."""
    return sum([weights[name][0] * (bottom // weights[name][1]) * numbers[name] for name in weights])
