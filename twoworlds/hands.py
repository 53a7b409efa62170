"""Hands: who knows what together, and what may be told to whom."""

from twoworlds.checks import check_asked, check_hands, first_bad, is_count, is_one_of
from twoworlds.errors import BadGroup, BadNumber, NoHand
from twoworlds.subsets import least_sets, most_sets


def knows(field, hands, group, asked):
    """Whether the hands of a group know asked together."""
    check_hands(field.questions(), hands)
    index = first_bad(list(hands), group)
    if index is not None:
        raise BadGroup(index)
    check_asked(field.questions(), asked)
    return field.is_told(_together(field, hands, group), asked)


def least_groups(field, hands, asked):
    """All groups that know asked, of which none does that lacks one hand."""
    _check_both(field, hands, asked)
    names = list(hands)
    groups = least_sets(len(names), _teller(field, hands, asked))
    return [[names[place] for place in group] for group in groups]


def outsiders(field, hands, asked):
    """All groups that do not know asked, but do with each further hand."""
    _check_both(field, hands, asked)
    names = list(hands)
    groups = most_sets(len(names), _teller(field, hands, asked))
    return [[names[place] for place in group] for group in groups]


def may_tell(field, hands, name, asked):
    """All questions, each of which can be told to a hand without its knowing asked then."""
    check_hands(field.questions(), hands)
    if not is_one_of(hands, name):
        raise NoHand(name)
    check_asked(field.questions(), asked)
    has = list(hands[name])
    if field.is_told(has, asked):
        return []
    return [one for one in field.questions() if one in has or not field.is_told([*has, one], asked)]


def is_safe(field, hands, most, asked):
    """Whether no group of at most so many hands knows asked."""
    check_hands(field.questions(), hands)
    if not is_count(most):
        raise BadNumber(most)
    check_asked(field.questions(), asked)
    return all([len(group) > most for group in least_groups(field, hands, asked)])


def _check_both(field, hands, asked):
    """The errors of hands, then those of asked."""
    check_hands(field.questions(), hands)
    check_asked(field.questions(), asked)


def _together(field, hands, group):
    """What the hands of a group know, in the order of the questions."""
    known = {}
    for name in group:
        for question in hands[name]:
            known[question] = True
    return [question for question in field.questions() if question in known]


def _teller(field, hands, asked):
    """A function that tells of places of hands whether these know asked together."""
    names = list(hands)

    def tells(places):
        return field.is_told(_together(field, hands, [names[place] for place in places]), asked)
    return tells
