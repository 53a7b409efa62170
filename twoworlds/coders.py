"""Codes, which show something for each letter of a word, and classes, which mark words."""

from twoworlds.checks import are_letters, has_just, is_integer, is_name, is_one_of, is_pair, is_string_of

SHOWN_SIGNS = "abcdefghijklmnopqrstuvwxyz0123456789"
MOST_SHOWN = 3


def is_code(letters, thing):
    """Whether any object is a dict from states to what each letter shows there, and where it leads."""
    if not are_letters(letters) or not _are_states(thing):
        return False
    return all([has_just(thing[state], letters) and all([_is_move(thing, thing[state][letter]) for letter in letters])
                for state in thing])


def is_class(letters, thing):
    """Whether any object is a dict from states to their marks, and to where each letter leads."""
    if not are_letters(letters) or not _are_states(thing):
        return False
    return all([is_pair(thing[state]) and is_integer(thing[state][0]) and _are_steps(letters, thing, thing[state][1])
                for state in thing])


def is_even(letters, code):
    """Whether a code shows just one sign for each letter in each state."""
    return all([len(code[state][letter][1]) == 1 for state in code for letter in letters])


def _are_states(thing):
    """Whether any object is a dict from one or more names."""
    return isinstance(thing, dict) and len(thing) > 0 and all([is_name(state) for state in thing])


def _is_move(states, thing):
    """Whether any object is a pair of one of the states and what is shown."""
    if not is_pair(thing) or not is_one_of(states, thing[0]):
        return False
    return is_string_of(SHOWN_SIGNS, thing[1]) and len(thing[1]) <= MOST_SHOWN


def _are_steps(letters, states, thing):
    """Whether any object is a dict from just the letters to states."""
    return has_just(thing, letters) and all([is_one_of(states, thing[letter]) for letter in letters])
