"""Files that tell a whole net, and what hides an arc."""

from twoworlds.checks import check_both, first_bad, has_just, is_count, is_integer, is_pair
from twoworlds.errors import BadAmounts
from twoworlds.nets import free_arcs
from twoworlds.walks import either_way, is_joined


def cheapest(net, prices):
    """A pair of the least price of a file that tells all questions, and such a file."""
    _check_prices(net, prices)
    left_out = _forest(net, prices)
    file = [name for name in net.live() if name not in left_out]
    return (_price_of(prices, file), file)


def is_cheapest(net, prices, thing):
    """Whether any object is such a file, in any order."""
    _check_prices(net, prices)
    if first_bad(net.questions(), thing) is not None:
        return False
    if not all([net.is_told(thing, name) for name in net.questions()]):
        return False
    return _price_of(prices, thing) == cheapest(net, prices)[0]


def hiding(net, known, asked):
    """A pair of known ones without which asked is not told, and levels that tell that fewer are not enough."""
    check_both(net.questions(), known, asked)
    if asked not in net.live():
        return None
    if not net.is_told(known, asked):
        return ([], {})
    start, end = net.arcs()[asked]
    levels, last = _levelled(net, known, asked)
    taken = [asked] if asked in known else []
    node = start
    while node != end:
        step = last[node]
        if step[0] in known:
            taken.append(step[0])
        node = step[2]
    return (taken, {one: levels.get(one, 0) for one in net.nodes()})


def is_hiding(net, known, asked, thing):
    """Whether any object is a hiding of an asked arc that is told."""
    check_both(net.questions(), known, asked)
    if not net.is_told(known, asked) or not is_pair(thing):
        return False
    taken, levels = thing
    if first_bad(known, taken) is not None or not _are_levels(net, known, asked, levels):
        return False
    start = net.arcs()[asked][0]
    if len(taken) != levels[start] + (1 if asked in known else 0):
        return False
    return not net.is_told([name for name in known if name not in taken], asked)


def _check_prices(net, prices):
    """BadAmounts, if it is no dict from just the arcs to integers from 0 on."""
    if not isinstance(prices, dict):
        raise BadAmounts(None)
    for name in net.questions():
        if name not in prices or not is_count(prices[name]):
            raise BadAmounts(name)
    if len(prices) > len(net.questions()):
        raise BadAmounts(None)


def _price_of(prices, file):
    """The sum of the prices of a file."""
    return sum([prices[name] for name in file])


def _forest(net, prices):
    """The dearest live arcs that hold no ring, gone either way."""
    arcs = net.arcs()
    forest = []
    for name in sorted(net.live(), key=lambda one: -prices[one]):
        if not is_joined(arcs, forest, name):
            forest.append(name)
    return forest


def _levelled(net, known, asked):
    """A pair of dicts from nodes: how many known arcs lie on the way from the end of asked, and the last step of it."""
    arcs = net.arcs()
    steps = [step for step in either_way(arcs, net.live()) if step[0] != asked]
    levels, last = {arcs[asked][1]: 0}, {}
    # No way goes through a node twice, so as many rounds as there are nodes settle all levels.
    for _ in net.nodes():
        for step in steps:
            name, _, start, end = step
            if start in levels:
                level = levels[start] + (1 if name in known else 0)
                if end not in levels or level < levels[end]:
                    levels[end] = level
                    last[end] = step
    return (levels, last)


def _are_levels(net, known, asked, thing):
    """Whether any object is a dict from just the nodes to levels that let no shorter way be."""
    if not has_just(thing, net.nodes()) or not all([is_integer(thing[node]) for node in thing]):
        return False
    arcs, free = net.arcs(), free_arcs(net, known)
    if thing[arcs[asked][1]] != 0:
        return False
    for name in net.live():
        start, end = arcs[name]
        if name != asked and abs(thing[start] - thing[end]) > (0 if name in free else 1):
            return False
    return True
