"""Machines that read words, and tell a digit at each place."""

from twoworlds.checks import DIGITS, check_asked, check_both, check_known, check_lacking, check_letters, has_just
from twoworlds.checks import is_count, is_digit, is_name, is_one_of, is_pair, is_parted, is_string_of
from twoworlds.delays import Twins, is_plan_for, plan_for, read_along
from twoworlds.errors import BadAnswers, BadIndex, BadKnown, BadMachine, BadNumber, BadPlan, BadWorld, TakenName
from twoworlds.errors import UnlikeLetters
from twoworlds.joints import can_part, joint_of, least_of, least_parted, merged, told_along
from twoworlds.quests import first_row_to
from twoworlds.tapes import many_along, nth_along, said_along
from twoworlds.woven import woven

MOST_STATES = 6


class Machines:
    """A field of readers, each of which tells the digits of all states in which it stands along a word."""

    def __init__(self, letters, readers):
        check_letters(letters)
        if not isinstance(readers, dict) or len(readers) == 0:
            raise BadMachine(None)
        for name in readers:
            if not is_name(name) or not _is_reader(letters, readers[name]):
                raise BadMachine(name)
        self._letters = letters
        self._readers = {name: _own(readers[name]) for name in readers}

    def __eq__(self, other):
        if not isinstance(other, Machines):
            return False
        return self._letters == other._letters and list(self._readers.items()) == list(other._readers.items())

    def __or__(self, other):
        if not isinstance(other, Machines):
            return NotImplemented
        if self._letters != other._letters:
            raise UnlikeLetters()
        for name in other._readers:
            if name in self._readers:
                raise TakenName(name)
        return Machines(self._letters, {**self._readers, **other._readers})

    def letters(self):
        """The letters, as one string."""
        return self._letters

    def reader(self, name):
        """A reader, states and moves as they were passed."""
        check_asked(self._readers, name)
        return _own(self._readers[name])

    def questions(self):
        """The names of the readers, in order."""
        return list(self._readers)

    def home(self):
        """The empty word."""
        return ""

    def answers(self, world):
        """What each reader tells of a word."""
        if not is_string_of(self._letters, world):
            raise BadWorld(world)
        places = [self._letters.index(letter) for letter in world]
        return {name: told_along(self._joint([name]), places) for name in self._readers}

    def is_told(self, known, asked):
        """Whether known tells asked."""
        check_both(self._readers, known, asked)
        # Nothing known does not even tell how long the word is.
        return len(known) > 0 and not can_part(self._joint([*known, asked]))

    def plan(self, known, asked):
        """A reader of what is told, or None."""
        if not self.is_told(known, asked):
            return None
        return plan_for(merged(self._joint([*known, asked])), 0)

    def is_plan(self, known, asked, thing):
        """Whether any object is a reader of what is told that tells asked."""
        check_both(self._readers, known, asked)
        return len(known) > 0 and is_plan_for(self._joint([*known, asked]), 0, thing)

    def found(self, known, asked, plan, answers):
        """What a plan tells along the answers to known."""
        if not self.is_plan(known, asked, plan):
            raise BadPlan(plan)
        _check_digits(known, answers)
        lines = woven([answers[name] for name in known])
        if lines is None or len(lines) == 0:
            raise BadAnswers(answers)
        told = read_along(plan, lines)
        if told is None:
            raise BadAnswers(answers)
        return told

    def apart(self, known, asked):
        """Two words that agree in known and part in asked, or None."""
        return self.least_apart(known, asked)

    def are_apart(self, known, asked, thing):
        """Whether any object is such a pair of words."""
        check_both(self._readers, known, asked)
        if not is_pair(thing) or not all([is_string_of(self._letters, word) for word in thing]):
            return False
        return is_parted(self.answers(thing[0]), self.answers(thing[1]), known, asked)

    def least_apart(self, known, asked):
        """Of all such pairs the one with the least second word, and with this the least first one, or None."""
        check_both(self._readers, known, asked)
        if len(known) == 0:
            return ("", self._letters[0])
        return least_parted(self._letters, self._joint([*known, asked]))

    def many_words(self, known, answers):
        """The number of words that have these answers."""
        lines = self._lines(known, answers)
        return many_along(self._joint(known), lines)

    def nth_word(self, known, answers, index):
        """The word that has these answers and so many of these ahead of it."""
        lines = self._lines(known, answers)
        joint = self._joint(known)
        if not is_count(index) or index >= many_along(joint, lines):
            raise BadIndex(index)
        return self._word(nth_along(joint, lines, index))

    def may_say(self, known, answers, asked):
        """The ascending list of all that asked tells of the words that have these answers."""
        self._check_some(known)
        check_asked(self._readers, asked)
        return said_along(self._joint([*known, asked]), self._lines(known, answers))

    def lag(self, known, asked):
        """By how many places, at least, asked is told late, or None."""
        return Twins(self._late_joint(known, asked)).lag()

    def late_words(self, known, asked, n):
        """Two words that agree in known and part in asked n places ahead of the last one, or None."""
        joint = self._late_joint(known, asked)
        _check_number(n)
        words = Twins(joint).words(n)
        return None if words is None else (self._word(words[0]), self._word(words[1]))

    def late_plan(self, known, asked, n):
        """A plan that tells asked n places late, or None."""
        joint = self._late_joint(known, asked)
        _check_number(n)
        lag = Twins(joint).lag()
        return None if lag is None or lag > n else plan_for(merged(joint), n)

    def is_late_plan(self, known, asked, n, thing):
        """Whether any object is such a plan."""
        joint = self._late_joint(known, asked)
        _check_number(n)
        return is_plan_for(joint, n, thing)

    def unlike_word(self, one, other):
        """The least word of which two questions tell unlike strings, or None."""
        check_asked(self._readers, one)
        check_asked(self._readers, other)
        nexts, tells = self._joint([one, other])

        def follow(state, letter):
            return nexts[state][self._letters.index(letter)]

        def is_unlike(state):
            return tells[state][0] != tells[state][1]
        row = first_row_to(0, list(self._letters), follow, is_unlike)
        return None if row is None else "".join(row)

    def least_reader(self, name):
        """The reader with the fewest states that tells the same of all words."""
        check_asked(self._readers, name)
        return least_of(self._letters, self._joint([name]))

    def only(self, names):
        """The field with some questions alone."""
        self._check_some(names)
        return Machines(self._letters, {name: self._readers[name] for name in names})

    def _joint(self, names):
        """The readers of some questions together."""
        return joint_of(self._letters, [self._readers[name] for name in names])

    def _late_joint(self, known, asked):
        """The readers of known and asked together; the errors of both, and BadKnown for an empty known."""
        self._check_some(known)
        check_asked(self._readers, asked)
        return self._joint([*known, asked])

    def _check_some(self, known):
        """BadKnown, also if known is empty."""
        check_known(self._readers, known)
        if len(known) == 0:
            raise BadKnown(0)

    def _lines(self, known, answers):
        """The digits of known, place by place, none if no word has them; the errors of both."""
        self._check_some(known)
        _check_digits(known, answers)
        lines = woven([answers[name] for name in known])
        return [] if lines is None else lines

    def _word(self, places):
        """The word of the letters at some places."""
        return "".join([self._letters[place] for place in places])


def _is_reader(letters, thing):
    """Whether any object is a pair of one of its states and of the dict of these."""
    if not is_pair(thing) or not isinstance(thing[1], dict) or not 1 <= len(thing[1]) <= MOST_STATES:
        return False
    begin, states = thing
    if not is_one_of(states, begin) or not all([is_name(state) for state in states]):
        return False
    return all([is_pair(states[state]) and is_digit(states[state][0]) and has_just(states[state][1], letters)
                and all([is_one_of(states, states[state][1][letter]) for letter in letters]) for state in states])


def _own(reader):
    """A reader as tuples and new dicts."""
    begin, states = reader
    return (begin, {state: (states[state][0], {letter: states[state][1][letter] for letter in states[state][1]})
                    for state in states})


def _check_digits(known, answers):
    """BadAnswers, if answers lack a question of known, or have something else than a string of digits for one."""
    check_lacking(known, answers)
    if not all([is_string_of(DIGITS, answers[name]) for name in known]):
        raise BadAnswers(answers)


def _check_number(n):
    """BadNumber, if it is no integer from 0 on."""
    if not is_count(n):
        raise BadNumber(n)
