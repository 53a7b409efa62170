"""Ways along arcs.

A STEP is a tuple (name, sign, start, end): an arc that is gone from its start to its
end (sign 1), or back (sign -1), start and end being those of the step.
"""


def onward(arcs, names):
    """The steps along some arcs."""
    return [(name, 1, arcs[name][0], arcs[name][1]) for name in names]


def back(arcs, names):
    """The steps along some arcs, gone back."""
    return [(name, -1, arcs[name][1], arcs[name][0]) for name in names]


def either_way(arcs, names):
    """The steps along some arcs, gone either way."""
    return onward(arcs, names) + back(arcs, names)


def reached(steps, begin):
    """The dict from all nodes that steps lead to, nearest first, to the last step; None for the first node."""
    found = {begin: None}
    todo = [begin]
    at = 0
    while at < len(todo):
        for step in steps:
            if step[2] == todo[at] and step[3] not in found:
                found[step[3]] = step
                todo.append(step[3])
        at += 1
    return found


def way_to(found, node):
    """The steps that lead to a node that was reached."""
    way = []
    while found[node] is not None:
        way.append(found[node])
        node = found[node][2]
    return way[::-1]


def is_joined(arcs, names, asked):
    """Whether arcs, each gone either way, lead from the end of the asked one back to its start."""
    return arcs[asked][0] in reached(either_way(arcs, names), arcs[asked][1])


def ring_through(arcs, names, asked):
    """The steps of a ring of the asked arc, gone onward, and of others, gone either way."""
    start, end = arcs[asked]
    return onward(arcs, [asked]) + way_to(reached(either_way(arcs, names), end), start)


def shifted(world, ring, much):
    """A world with so much more on each step of a ring."""
    signs = {step[0]: step[1] for step in ring}
    return {name: world[name] + much * signs.get(name, 0) for name in world}


def inward(arcs, names, answers, side):
    """What some arcs lead into a side, less what they lead out of it."""
    total = 0
    for name in names:
        start, end = arcs[name]
        if end in side and start not in side:
            total += answers[name]
        if start in side and end not in side:
            total -= answers[name]
    return total
