"""Sums of arcs of a net, and the heights that tell them."""

from twoworlds.checks import check_counts, check_known, has_just, is_integer, is_one_of
from twoworlds.errors import BadAmounts, BadPlan
from twoworlds.nets import filled_world, free_arcs
from twoworlds.walks import either_way, reached, ring_through, shifted


def heights(net, known, amounts):
    """A dict from the nodes to heights by which the sum of amounts is found, or None."""
    check_known(net.questions(), known)
    _check_amounts(net, amounts)
    given, _ = _climbed(net, known, amounts)
    return given if _misfit(net, known, amounts, given) is None else None


def are_heights(net, known, amounts, thing):
    """Whether any object is such a dict."""
    check_known(net.questions(), known)
    _check_amounts(net, amounts)
    return _are_heights(net, known, amounts, thing)


def sum_found(net, known, amounts, given, answers):
    """The sum that heights make of answers."""
    check_known(net.questions(), known)
    _check_amounts(net, amounts)
    if not _are_heights(net, known, amounts, given):
        raise BadPlan(given)
    check_counts(known, answers)
    arcs = net.arcs()
    return sum([answers[name] * _over(arcs[name], amounts.get(name, 0), given) for name in net.live() if name in known])


def sum_apart(net, known, amounts):
    """A pair of worlds that agree in known and have unlike sums, or None."""
    check_known(net.questions(), known)
    _check_amounts(net, amounts)
    given, climbed = _climbed(net, known, amounts)
    name = _misfit(net, known, amounts, given)
    if name is None:
        return None
    # Only along the arcs by which the heights were made do the amounts of a ring not sum to 0.
    filled = filled_world(net)
    return (filled, shifted(filled, ring_through(net.arcs(), climbed, name), 1))


def _check_amounts(net, amounts):
    """BadAmounts, if it is no dict from some arcs to integers."""
    if not isinstance(amounts, dict):
        raise BadAmounts(None)
    for name in amounts:
        if not is_one_of(net.questions(), name) or not is_integer(amounts[name]):
            raise BadAmounts(name)


def _over(arc, amount, given):
    """What an amount is more than the height of the end of an arc less that of its start."""
    start, end = arc
    return amount - (given[end] - given[start])


def _climbed(net, known, amounts):
    """A pair of heights, made along a tree of arcs in each part of the net, and of the arcs of these trees."""
    arcs = net.arcs()
    steps = either_way(arcs, free_arcs(net, known))
    given, climbed = {}, []
    for begin in net.nodes():
        if begin not in given:
            found = reached(steps, begin)
            for node in found:
                if node == begin:
                    given[node] = 0
                else:
                    name, sign, start, _ = found[node]
                    given[node] = given[start] + sign * amounts.get(name, 0)
                    climbed.append(name)
    return ({node: given[node] for node in net.nodes()}, climbed)


def _misfit(net, known, amounts, given):
    """The first live arc that is not known to which heights do not fit, or None."""
    arcs = net.arcs()
    for name in free_arcs(net, known):
        if _over(arcs[name], amounts.get(name, 0), given) != 0:
            return name
    return None


def _are_heights(net, known, amounts, thing):
    """Whether any object is a dict from just the nodes to integers that fit."""
    if not has_just(thing, net.nodes()) or not all([is_integer(thing[node]) for node in thing]):
        return False
    return _misfit(net, known, amounts, thing) is None
