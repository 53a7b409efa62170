"""Tables: fields that are told by all their worlds."""

from twoworlds.checks import check_asked, check_both, check_known, check_lacking, has_just
from twoworlds.checks import is_integer, is_list, is_name, is_one_of, is_pair, is_parted
from twoworlds.errors import BadAnswers, BadKnown, BadPlan, BadRow, BadWorld, UnlikeQuestions


class Table:
    """A field whose worlds are the dicts that are equal to some row."""

    def __init__(self, rows):
        index = _first_bad_row(rows)
        if index is not None:
            raise BadRow(index)
        self._questions = list(rows[0])
        self._rows = [tuple([row[name] for name in self._questions]) for row in rows]

    def __len__(self):
        return len(self._rows)

    def __eq__(self, other):
        if not isinstance(other, Table):
            return False
        return self._questions == other._questions and self._rows == other._rows

    def __add__(self, other):
        if not isinstance(other, Table):
            return NotImplemented
        if self.questions() != other.questions():
            raise UnlikeQuestions()
        return Table(self.rows() + other.rows())

    def questions(self):
        """The questions, in the order of the first row."""
        return list(self._questions)

    def home(self):
        """A world of the table."""
        return self._dict_of(self._rows[0])

    def answers(self, world):
        """All answers in a world."""
        if not self._is_world(world):
            raise BadWorld(world)
        return {name: world[name] for name in self._questions}

    def is_told(self, known, asked):
        """Whether known tells asked."""
        check_both(self._questions, known, asked)
        return self._parting_rows(known, asked) is None

    def plan(self, known, asked):
        """The dict from all tuples of answers to known to the answers to asked, or None."""
        check_both(self._questions, known, asked)
        if self._parting_rows(known, asked) is not None:
            return None
        return self._plan_of(known, asked)

    def is_plan(self, known, asked, thing):
        """Whether any object is a plan."""
        check_both(self._questions, known, asked)
        if self._parting_rows(known, asked) is not None or not isinstance(thing, dict):
            return False
        right = self._plan_of(known, asked)
        if len(thing) != len(right):
            return False
        return all([_are_integers(key) and key in right and is_integer(thing[key]) and thing[key] == right[key]
                    for key in thing])

    def found(self, known, asked, plan, answers):
        """What a plan makes of answers."""
        if not self.is_plan(known, asked, plan):
            raise BadPlan(plan)
        check_lacking(known, answers)
        key = tuple([answers[name] for name in known])
        if not _are_integers(key) or key not in plan:
            raise BadAnswers(answers)
        return plan[key]

    def apart(self, known, asked):
        """A pair of worlds that agree in known and part in asked, or None."""
        check_both(self._questions, known, asked)
        rows = self._parting_rows(known, asked)
        if rows is None:
            return None
        return (self._dict_of(rows[0]), self._dict_of(rows[1]))

    def are_apart(self, known, asked, thing):
        """Whether any object is such a pair of worlds."""
        check_both(self._questions, known, asked)
        if not is_pair(thing) or not self._is_world(thing[0]) or not self._is_world(thing[1]):
            return False
        return is_parted(thing[0], thing[1], known, asked)

    def rows(self):
        """The rows, as dicts in the order of the questions."""
        return [self._dict_of(row) for row in self._rows]

    def left(self, answers):
        """The indexes of all rows that have answers."""
        self._check_answers(answers)
        return [index for index, row in enumerate(self.rows())
                if all([row[name] == answers[name] for name in answers])]

    def may_be(self, answers, asked):
        """The ascending list of the answers to asked in the rows that have answers."""
        self._check_answers(answers)
        check_asked(self._questions, asked)
        rows = self.rows()
        return sorted({rows[index][asked] for index in self.left(answers)})

    def only(self, names):
        """The table with some questions alone."""
        check_known(self._questions, names)
        if len(names) == 0:
            raise BadKnown(0)
        return Table([{name: row[name] for name in names} for row in self.rows()])

    def _dict_of(self, row):
        """A row as a new dict."""
        return {name: answer for name, answer in zip(self._questions, row)}

    def _places(self, names):
        """At which places of a row the answers to some questions stand."""
        return [self._questions.index(name) for name in names]

    def _is_world(self, thing):
        """Whether any object is a dict that is equal to some row."""
        if not has_just(thing, self._questions):
            return False
        row = tuple([thing[name] for name in self._questions])
        return _are_integers(row) and row in self._rows

    def _check_answers(self, thing):
        """BadAnswers, if any object is no dict from some questions to integers."""
        if not isinstance(thing, dict):
            raise BadAnswers(thing)
        if not all([is_one_of(self._questions, name) and is_integer(thing[name]) for name in thing]):
            raise BadAnswers(thing)

    def _parting_rows(self, known, asked):
        """Two rows that have the same answers to known and unlike ones to asked, or None."""
        places = self._places(known)
        place = self._questions.index(asked)
        first = {}
        for row in self._rows:
            key = tuple([row[k] for k in places])
            if key not in first:
                first[key] = row
            elif first[key][place] != row[place]:
                return (first[key], row)
        return None

    def _plan_of(self, known, asked):
        """The plan for an asked question that is told."""
        places = self._places(known)
        place = self._questions.index(asked)
        return {tuple([row[k] for k in places]): row[place] for row in self._rows}


def _are_integers(thing):
    """Whether it is a tuple of integers alone."""
    return isinstance(thing, tuple) and all([is_integer(part) for part in thing])


def _first_bad_row(rows):
    """The index of the first thing that is no row beside the ones ahead, 0 for no list or an empty one, or None."""
    if not is_list(rows) or len(rows) == 0:
        return 0
    for index, row in enumerate(rows):
        if not isinstance(row, dict) or len(row) == 0 or not all([is_integer(row[name]) for name in row]):
            return index
        if not all([is_name(name) for name in row]) or not has_just(row, list(rows[0])):
            return index
    return None
