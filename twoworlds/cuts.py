"""Along which links alone a hand comes to know what is asked, and without which it does not."""

from twoworlds.checks import check_asked, check_hands, check_weights
from twoworlds.minds import Minds
from twoworlds.subsets import least_sets
from twoworlds.talks import check_hand, check_leak, check_links


def ways(field, hands, links, name, asked):
    """All lists of links along which alone a hand can come to know what is asked, but not with one link less."""
    check_leak(field, hands, links, name, asked)
    found = least_sets(len(links), _comes_along(field, hands, links, name, asked))
    return [_chosen(links, places) for places in found]


def cuts(field, hands, links, name, asked):
    """All lists of links without which a hand can not come to know what is asked, but can with one link of it."""
    check_leak(field, hands, links, name, asked)
    return [_chosen(links, places) for places in _cut_places(field, hands, links, name, asked)]


def lightest_cut(field, hands, links, weights, name, asked):
    """The pair of the least weight of a cut and of the first cut that has it, or None."""
    check_hands(field.questions(), hands)
    check_links(hands, links)
    check_weights(weights, len(links))
    check_hand(hands, name)
    check_asked(field.questions(), asked)
    found = _cut_places(field, hands, links, name, asked)
    if len(found) == 0:
        return None
    heavy = [sum([weights[place] for place in places]) for places in found]
    return (min(heavy), _chosen(links, found[heavy.index(min(heavy))]))


def _cut_places(field, hands, links, name, asked):
    """The lists of the places of the links of all cuts."""
    comes = _comes_along(field, hands, links, name, asked)

    def is_cut_off(places):
        return not comes([place for place in range(len(links)) if place not in places])
    return least_sets(len(links), is_cut_off)


def _comes_along(field, hands, links, name, asked):
    """A function that tells of places whether the hand comes to know what is asked along the links there."""
    minds = Minds(field)
    first, bit = minds.at_first(hands), minds.bit(asked)

    def comes(places):
        return minds.at_last(first, [links[place] for place in places])[name] & bit > 0
    return comes


def _chosen(links, places):
    """The links at some places, as tuples."""
    return [(links[place][0], links[place][1]) for place in places]
