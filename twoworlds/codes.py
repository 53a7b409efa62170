"""Codes and classes: fields whose worlds are all words of some letters."""

from twoworlds.checks import are_letters, check_both, check_known, check_lacking, is_count, is_integer, is_list
from twoworlds.checks import is_name, is_one_of, is_pair, is_parted, is_string_of
from twoworlds.coders import SHOWN_SIGNS, is_class, is_code, is_even
from twoworlds.crews import Crew
from twoworlds.errors import BadAnswers, BadClass, BadCode, BadLetters, BadNumber, BadPlan, BadReader, BadWorld
from twoworlds.errors import NoClass, NoQuestion, Uneven
from twoworlds.mazes import Maze
from twoworlds.pairings import Pairing
from twoworlds.readers import is_reader_for, least_reader_for, led_on
from twoworlds.woven import woven


class Codes:
    """A field of codes, which show something for each letter of a word, and of classes, which mark it."""

    def __init__(self, letters, codes, classes):
        if not are_letters(letters):
            raise BadLetters(letters)
        _check_codes(letters, codes)
        _check_classes(letters, codes, classes)
        if len(codes) > 1:
            for name in codes:
                if not is_even(letters, codes[name]):
                    raise Uneven(name)
        self._letters = letters
        self._machines = {name: _machine_of_code(letters, codes[name]) for name in codes}
        for name in classes:
            self._machines[name] = _machine_of_class(letters, classes[name])
        # Files are asked for again and again: what was found once is kept.
        self._kept = {}

    def __eq__(self, other):
        if not isinstance(other, Codes) or self._letters != other._letters:
            return False
        return _in_order(self._machines) == _in_order(other._machines)

    def questions(self):
        """The names of the codes, then those of the classes."""
        return list(self._machines)

    def home(self):
        """The empty word."""
        return ""

    def answers(self, world):
        """What a word shows to each code, and how each class marks it."""
        if not is_string_of(self._letters, world):
            raise BadWorld(world)
        return {name: self._crew_of([], name).told(world) for name in self._machines}

    def is_told(self, known, asked):
        """Whether known tells asked."""
        check_both(self._machines, known, asked)
        key = (tuple(sorted(known)), asked)
        if key not in self._kept:
            self._kept[key] = asked in known or self._looked(known, asked)[1] is None
        return self._kept[key]

    def plan(self, known, asked):
        """The list of all rows that can end and to which the first one goes on, or None."""
        return self._looked(known, asked)[0]

    def is_plan(self, known, asked, thing):
        """Whether any object is a list of rows with the first one that goes on within itself, and passes."""
        check_both(self._machines, known, asked)
        crew = self._crew_of(known, asked)
        if not is_list(thing) or not all([_is_row(crew, row) for row in thing]):
            return False
        rows = [tuple([tuple(part) for part in row]) for row in thing]
        pairing = Pairing(crew, rows)
        return pairing.first_row() in rows and pairing.are_closed(rows)

    def found(self, known, asked, plan, answers):
        """The answer to asked of the words that have these answers to known."""
        if not self.is_plan(known, asked, plan):
            raise BadPlan(plan)
        check_lacking(known, answers)
        if not self._are_of_kind(known, answers):
            raise BadAnswers(answers)
        word = self._maze(known, answers).shortest()
        if word is None:
            raise BadAnswers(answers)
        return self._crew_of([], asked).told(word)

    def apart(self, known, asked):
        """Two words that agree in known and part in asked, or None."""
        return self._looked(known, asked)[1]

    def are_apart(self, known, asked, thing):
        """Whether any object is such a pair of words."""
        check_both(self._machines, known, asked)
        if not is_pair(thing) or not all([is_string_of(self._letters, word) for word in thing]):
            return False
        return is_parted(self.answers(thing[0]), self.answers(thing[1]), known, asked)

    def letters(self):
        """The letters, as one string."""
        return self._letters

    def code(self, name):
        """A code, as a dict of dicts of pairs."""
        if not is_one_of(self._machines, name) or self._machines[name][1] is not None:
            raise NoQuestion(name)
        moves = self._machines[name][0]
        return {state: {letter: moves[state][letter] for letter in self._letters} for state in moves}

    def class_of(self, name):
        """A class, as a dict of pairs of marks and steps."""
        if not is_one_of(self._machines, name) or self._machines[name][1] is None:
            raise NoQuestion(name)
        moves, marks = self._machines[name]
        return {state: (marks[state], {letter: moves[state][letter][0] for letter in self._letters}) for state in moves}

    def words(self, known, answers, most):
        """All words of at most so many letters that have these answers, shorter ones first."""
        self._check_answers(known, answers)
        if not is_count(most):
            raise BadNumber(most)
        return self._maze(known, answers).words(most)

    def shortest(self, known, answers):
        """The first word that has these answers, or None."""
        self._check_answers(known, answers)
        return self._maze(known, answers).shortest()

    def how_many(self, known, answers):
        """The number of all words that have these answers, None if there are infinitely many."""
        self._check_answers(known, answers)
        return self._maze(known, answers).how_many()

    def least_reader(self, known, asked):
        """The reader of the fewest pairs that tells asked, or None."""
        crew = self._class_crew(known, asked)
        return least_reader_for(crew) if self.is_told(known, asked) else None

    def is_reader(self, known, asked, thing):
        """Whether any object is a reader that tells asked."""
        return is_reader_for(self._class_crew(known, asked), thing)

    def read(self, known, asked, reader, answers):
        """What a reader ends with, by answers to known."""
        if not self.is_reader(known, asked, reader):
            raise BadReader(reader)
        self._check_answers(known, answers)
        codes, classes = self._by_kind(known)
        index, symbols = 0, woven([answers[name] for name in codes])
        if symbols is not None:
            index = led_on(reader, index, symbols)
        marks = tuple([answers[name] for name in classes])
        if symbols is None or index is None or marks not in reader[index][0]:
            raise BadAnswers(answers)
        return reader[index][0][marks]

    def _crew_of(self, known, asked):
        """The machines of known, and of asked, if it is not None."""
        return Crew(self._letters, [self._machines[name] for name in known], self._machines.get(asked))

    def _class_crew(self, known, asked):
        """The machines of known and of an asked class; the errors of both."""
        check_both(self._machines, known, asked)
        if self._machines[asked][1] is None:
            raise NoClass(asked)
        return self._crew_of(known, asked)

    def _looked(self, known, asked):
        """A pair of the rows of a plan, or None, and of two words that are apart, or None."""
        check_both(self._machines, known, asked)
        return Pairing(self._crew_of(known, asked), []).look()

    def _by_kind(self, known):
        """The lists of the known codes and of the known classes."""
        codes = [name for name in known if self._machines[name][1] is None]
        return (codes, [name for name in known if name not in codes])

    def _maze(self, known, answers):
        """All words that have answers of the right kinds."""
        codes, classes = self._by_kind(known)
        marks = tuple([answers[name] for name in classes])
        return Maze(self._crew_of(known, None), [answers[name] for name in codes], marks)

    def _are_of_kind(self, known, answers):
        """Whether the answers to known are strings of codes, and integers of classes."""
        codes, classes = self._by_kind(known)
        if not all([isinstance(answers[name], str) for name in codes]):
            return False
        return all([is_integer(answers[name]) for name in classes])

    def _check_answers(self, known, answers):
        """BadKnown, then BadAnswers, if answers lack one to known, or have one of another kind."""
        check_known(self._machines, known)
        check_lacking(known, answers)
        if not self._are_of_kind(known, answers):
            raise BadAnswers(answers)


def _check_codes(letters, codes):
    """BadCode, if it is no dict from names to codes."""
    if not isinstance(codes, dict):
        raise BadCode(None)
    for name in codes:
        if not is_name(name) or not is_code(letters, codes[name]):
            raise BadCode(name)


def _check_classes(letters, codes, classes):
    """BadClass, if it is no dict from other names to classes, or there is no question at all."""
    if not isinstance(classes, dict):
        raise BadClass(None)
    for name in classes:
        if not is_name(name) or name in codes or not is_class(letters, classes[name]):
            raise BadClass(name)
    if len(codes) + len(classes) == 0:
        raise BadClass(None)


def _machine_of_code(letters, code):
    """The moves of a code, and None."""
    return ({state: {letter: (code[state][letter][0], code[state][letter][1]) for letter in letters}
             for state in code}, None)


def _machine_of_class(letters, marked):
    """The moves of a class, which show nothing, and its marks."""
    return ({state: {letter: (marked[state][1][letter], "") for letter in letters} for state in marked},
            {state: marked[state][0] for state in marked})


def _in_order(machines):
    """The machines in a form that is equal where their orders are, too."""
    return [(name, list(machines[name][0].items()), machines[name][1]) for name in machines]


def _is_row(crew, thing):
    """Whether any object is a row of two spots, what is shown, and what is told."""
    if not is_list(thing) or len(thing) != 4 or not crew.is_spot(thing[0]) or not crew.is_spot(thing[1]):
        return False
    shown, asked = thing[2], thing[3]
    if not _are_strings(shown) or not _are_strings(asked) or shown[0] != "" and shown[1] != "":
        return False
    if crew.asks_class():
        return asked[0] == "" and asked[1] == ""
    return asked[0] == "" or asked[1] == "" or asked[0][0] != asked[1][0]


def _are_strings(thing):
    """Whether any object is a pair of strings of signs."""
    return is_pair(thing) and is_string_of(SHOWN_SIGNS, thing[0]) and is_string_of(SHOWN_SIGNS, thing[1])
