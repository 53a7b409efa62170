"""Hands that tell one another what they know: leaks, and shields against them."""

from twoworlds.checks import check_asked, check_hands, first_bad, has_just, is_list, is_one_of, is_pair
from twoworlds.errors import BadLinks, BadTelling, NoHand
from twoworlds.leaks import shortest_leak
from twoworlds.minds import Minds


def talked(field, hands, links, tellings):
    """The dict from all hands to the lists of what they know when tellings were done, one behind the other."""
    check_hands(field.questions(), hands)
    check_links(hands, links)
    minds = Minds(field)
    bad, now = _done(field, minds, hands, links, tellings)
    if bad is not None:
        raise BadTelling(bad)
    return {name: minds.names_of(now[name]) for name in now}


def all_talked(field, hands, links):
    """The dict from all hands to the lists of all that they can come to know by tellings."""
    check_hands(field.questions(), hands)
    check_links(hands, links)
    minds = Minds(field)
    now = minds.at_last(minds.at_first(hands), links)
    return {name: minds.names_of(now[name]) for name in now}


def leak(field, hands, links, name, asked):
    """As few tellings as can be, behind which a hand knows what is asked, or None."""
    check_leak(field, hands, links, name, asked)
    return shortest_leak(Minds(field), hands, links, name, asked)


def is_leak(field, hands, links, name, asked, thing):
    """Whether any object is a list of tellings that can be done, behind which a hand knows what is asked."""
    check_leak(field, hands, links, name, asked)
    minds = Minds(field)
    bad, now = _done(field, minds, hands, links, thing)
    return bad is None and now[name] & minds.bit(asked) > 0


def shield(field, hands, links, name, asked):
    """What all hands can come to know, if the one does not come to know what is asked, or None."""
    check_leak(field, hands, links, name, asked)
    known = all_talked(field, hands, links)
    return None if asked in known[name] else known


def is_shield(field, hands, links, name, asked, thing):
    """Whether any object is a dict of lists that tell nothing besides, and that tellings do not lead out of."""
    check_leak(field, hands, links, name, asked)
    questions, minds = field.questions(), Minds(field)
    if not has_just(thing, hands) or not all([first_bad(questions, thing[one]) is None for one in hands]):
        return False
    sets, first = {one: minds.set_of(thing[one]) for one in hands}, minds.at_first(hands)
    if not all([first[one] & ~sets[one] == 0 and minds.told(sets[one]) == sets[one] for one in hands]):
        return False
    return asked not in thing[name] and all([sets[one] & ~sets[other] == 0 for one, other in links])


def check_links(hands, links):
    """BadLinks, if they are no list of unlike pairs of unlike hands."""
    if not is_list(links):
        raise BadLinks(0)
    seen = {}
    for index, link in enumerate(links):
        if not is_pair(link) or not all([is_one_of(hands, name) for name in link]) or link[0] == link[1]:
            raise BadLinks(index)
        if (link[0], link[1]) in seen:
            raise BadLinks(index)
        seen[(link[0], link[1])] = True


def check_leak(field, hands, links, name, asked):
    """The errors of hands, links, a hand, and what is asked."""
    check_hands(field.questions(), hands)
    check_links(hands, links)
    check_hand(hands, name)
    check_asked(field.questions(), asked)


def check_hand(hands, name):
    """NoHand, if it is no name of a hand."""
    if not is_one_of(hands, name):
        raise NoHand(name)


def _done(field, minds, hands, links, tellings):
    """A pair of the index of the first thing that is no telling that can be done there, 0 for no list, or None, and of
    the dict from hands to the sets of what they know then."""
    now = minds.at_first(hands)
    if not is_list(tellings):
        return (0, now)
    open_links = [tuple(link) for link in links]
    for index, telling in enumerate(tellings):
        if not _can_be_done(field, minds, now, open_links, telling):
            return (index, now)
        _, other, question = telling
        now = {**now, other: minds.told(now[other] | minds.bit(question))}
    return (None, now)


def _can_be_done(field, minds, now, links, thing):
    """Whether any object is a telling along a link of a question that is known there."""
    if not is_list(thing) or len(thing) != 3 or not all([isinstance(part, str) for part in thing]):
        return False
    one, other, question = thing
    if (one, other) not in links or not is_one_of(field.questions(), question):
        return False
    return now[one] & minds.bit(question) > 0
