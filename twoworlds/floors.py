"""Nets with a world at hand: the least and the greatest answer."""

from twoworlds.checks import check_asked, check_counts, check_known, first_bad
from twoworlds.nets import free_arcs
from twoworlds.walks import back, inward, onward, reached, shifted, way_to


def least_at(net, known, world, asked):
    """A triple of the least answer, a world with it, and a floor, or None for 0 and for a known one."""
    answers = _at_hand(net, known, world, asked)
    if asked in known:
        return (answers[asked], answers, None)
    arcs, free = net.arcs(), _others(net, known, asked)
    start, end = arcs[asked]
    while answers[asked] > 0:
        found = _reached_at(arcs, free, answers, start)
        if end not in found:
            return (answers[asked], answers, [node for node in net.nodes() if node in found])
        ring = way_to(found, end) + back(arcs, [asked])
        answers = shifted(answers, ring, _most_along(answers, ring))
    return (0, answers, None)


def most_at(net, known, world, asked):
    """A triple of the greatest answer, a world with it, and a ceiling; or of None, a greater world, and a ring."""
    answers = _at_hand(net, known, world, asked)
    if asked in known:
        return (answers[asked], answers, None)
    arcs, free = net.arcs(), _others(net, known, asked)
    start, end = arcs[asked]
    endless = reached(onward(arcs, free), end)
    if start in endless:
        ring = onward(arcs, [asked]) + way_to(endless, start)
        return (None, shifted(answers, ring, 1), [step[0] for step in ring])
    found = _reached_at(arcs, free, answers, end)
    while start in found:
        ring = onward(arcs, [asked]) + way_to(found, start)
        answers = shifted(answers, ring, _most_along(answers, ring))
        found = _reached_at(arcs, free, answers, end)
    return (answers[asked], answers, [node for node in net.nodes() if node not in found])


def bound_of(net, known, answers, asked, side, is_floor):
    """The bound of a floor or of a ceiling, or None for what is none."""
    check_known(net.questions(), known)
    check_counts(known, answers)
    check_asked(net.questions(), asked)
    if first_bad(net.nodes(), side) is not None:
        return None
    arcs = net.arcs()
    start, end = arcs[asked]
    if start not in side or end in side:
        return None
    for name in _others(net, known, asked):
        one, other = arcs[name] if is_floor else arcs[name][::-1]
        if one in side and other not in side:
            return None
    return inward(arcs, [name for name in net.live() if name in known and name != asked], answers, side)


def _at_hand(net, known, world, asked):
    """The answers in the world at hand; the errors of known, then of it, then of asked."""
    check_known(net.questions(), known)
    answers = net.answers(world)
    check_asked(net.questions(), asked)
    return answers


def _others(net, known, asked):
    """The live arcs that are neither known nor asked."""
    return [name for name in free_arcs(net, known) if name != asked]


def _reached_at(arcs, free, answers, begin):
    """The nodes reached by arcs that can have more, gone onward, or less, gone back."""
    return reached(onward(arcs, free) + back(arcs, [name for name in free if answers[name] > 0]), begin)


def _most_along(answers, ring):
    """How often the world can be changed along a ring, with steps back, until an answer is 0."""
    return min([answers[step[0]] for step in ring if step[1] < 0])
