"""What every part asks of the objects that it is passed."""

from twoworlds.errors import BadAnswers, BadHands, BadKnown, BadLetters, BadNumber, BadWeight, BadWorld, NoQuestion

SMALL_LETTERS = "abcdefghijklmnopqrstuvwxyz"
SIGNS = "abcdefghijklmnopqrstuvwxyz0123456789."
DIGITS = "0123456789"
LONGEST = 40
MOST_LETTERS = 3


def is_integer(thing):
    """Whether it is an integer; a truth value is none."""
    return isinstance(thing, int) and not isinstance(thing, bool)


def is_count(thing):
    """Whether it is an integer from 0 on."""
    return is_integer(thing) and thing >= 0


def is_list(thing):
    """Whether it is a list, or a tuple in the place of one."""
    return isinstance(thing, (list, tuple))


def is_pair(thing):
    """Whether it is a pair of any two things."""
    return is_list(thing) and len(thing) == 2


def is_name(thing):
    """Whether it is a name of the longest form, also one that this package makes."""
    if not isinstance(thing, str) or not 1 <= len(thing) <= LONGEST:
        return False
    return all([sign in SIGNS for sign in thing])


def is_fraction(thing):
    """Whether it is a pair (top, bottom) of integers, bottom from 1 on."""
    return is_pair(thing) and is_integer(thing[0]) and is_integer(thing[1]) and thing[1] >= 1


def is_one_of(names, thing):
    """Whether any object is one of some names."""
    # What is no string may have no place among the keys of a dict.
    return isinstance(thing, str) and thing in names


def is_string_of(letters, thing):
    """Whether any object is a string of the letters, perhaps empty."""
    return isinstance(thing, str) and all([letter in letters for letter in thing])


def is_word(letters, thing):
    """Whether any object is a string of one or more of the letters."""
    return is_string_of(letters, thing) and len(thing) > 0


def are_letters(thing):
    """Whether any object is a string of one or more unlike small letters."""
    return is_word(SMALL_LETTERS, thing) and len(set(thing)) == len(thing)


def is_digit(thing):
    """Whether it is an integer from 0 to 9."""
    return is_count(thing) and thing <= 9


def has_just(thing, names):
    """Whether any object is a dict with just some names as keys."""
    return isinstance(thing, dict) and len(thing) == len(names) and all([name in thing for name in names])


def alike(one, other):
    """Whether two answers are the same, a list and a tuple being one, a truth value and an integer not."""
    if isinstance(one, bool) != isinstance(other, bool):
        return False
    if is_list(one) and is_list(other):
        return len(one) == len(other) and all([alike(a, b) for a, b in zip(one, other)])
    return one == other


def is_parted(one, other, known, asked):
    """Whether two dicts of answers agree in all of known and part in asked."""
    return all([one[name] == other[name] for name in known]) and one[asked] != other[asked]


def answers_or_none(field, thing):
    """The answers in a world of a field, None for any object that is none."""
    try:
        return field.answers(thing)
    except BadWorld:
        return None


def are_worlds_apart(field, known, asked, thing):
    """Whether any object is a pair of worlds of a field that agree in known and part in asked."""
    if not is_pair(thing):
        return False
    one, other = answers_or_none(field, thing[0]), answers_or_none(field, thing[1])
    return one is not None and other is not None and is_parted(one, other, known, asked)


def first_bad(names, things):
    """The index of the first thing that is none of the names or stood before, 0 for no list, or None."""
    if not is_list(things):
        return 0
    seen = {}
    for index, thing in enumerate(things):
        if not is_one_of(names, thing) or thing in seen:
            return index
        seen[thing] = True
    return None


def first_no_name(things):
    """The index of the first thing that is no name or stood before, 0 for no list or an empty one, or None."""
    if not is_list(things) or len(things) == 0:
        return 0
    seen = {}
    for index, thing in enumerate(things):
        if not is_name(thing) or thing in seen:
            return index
        seen[thing] = True
    return None


def are_unlike_names(thing):
    """Whether any object is a list of unlike names, perhaps empty."""
    return is_list(thing) and (len(thing) == 0 or first_no_name(thing) is None)


def check_known(names, known):
    """BadKnown, if known is no list of unlike ones of the names."""
    index = first_bad(names, known)
    if index is not None:
        raise BadKnown(index)


def check_asked(names, asked):
    """NoQuestion, if asked is none of the names."""
    if not is_one_of(names, asked):
        raise NoQuestion(asked)


def check_both(names, known, asked):
    """The errors of known, then those of asked."""
    check_known(names, known)
    check_asked(names, asked)


def check_lacking(known, answers):
    """BadAnswers, if answers are no dict or lack a question of known."""
    if not isinstance(answers, dict) or not all([name in answers for name in known]):
        raise BadAnswers(answers)


def check_counts(known, answers):
    """BadAnswers, if answers are no dict that has integers from 0 on for all of known."""
    check_lacking(known, answers)
    if not all([is_count(answers[name]) for name in known]):
        raise BadAnswers(answers)


def check_letters(letters):
    """BadLetters, if it is no string of one to three unlike small letters."""
    if not are_letters(letters) or len(letters) > MOST_LETTERS:
        raise BadLetters(letters)


def check_from_one(n):
    """BadNumber, if it is no integer from 1 on."""
    if not is_count(n) or n == 0:
        raise BadNumber(n)


def check_weights(weights, many):
    """BadWeight, if weights are no list of so many integers from 1 on."""
    if not is_list(weights):
        raise BadWeight(0)
    for index, weight in enumerate(weights):
        if not is_count(weight) or weight == 0:
            raise BadWeight(index)
    if len(weights) != many:
        raise BadWeight(len(weights))


def check_hands(names, hands):
    """BadHands, if hands are no dict from names to lists of unlike ones of the questions."""
    if not isinstance(hands, dict) or len(hands) == 0:
        raise BadHands(None)
    for name in hands:
        if not is_name(name) or first_bad(names, hands[name]) is not None:
            raise BadHands(name)


def asked_files(field, asked, of):
    """The list of questions of which files are made; the errors of asked, then of it."""
    names = field.questions()
    check_asked(names, asked)
    if of is None:
        return [name for name in names if name != asked]
    check_known(names, of)
    return list(of)
