"""Words by what readers tell of them; LINES are the digits of all readers of a joint, place by place."""


def ways_along(joint, lines):
    """For each place a list, by states, of the numbers of ways on which the lines are told from there to the end."""
    nexts, tells = joint
    ways = []
    for line in lines[::-1]:
        if len(ways) == 0:
            ways.append([1 if told == line else 0 for told in tells])
        else:
            ways.append([sum([ways[-1][after] for after in nexts[state]]) if told == line else 0
                         for state, told in enumerate(tells)])
    return ways[::-1]


def many_along(joint, lines):
    """The number of words of which the lines are told."""
    return ways_along(joint, lines)[0][0] if len(lines) > 0 else 0


def nth_along(joint, lines, index):
    """The places of the letters of the one of these words with so many ahead of it."""
    nexts, _ = joint
    ways, state, out = ways_along(joint, lines), 0, []
    for behind in ways[1:]:
        for place, after in enumerate(nexts[state]):
            if index < behind[after]:
                out.append(place)
                state = after
                break
            index -= behind[after]
    return out


def said_along(joint, lines):
    """The ascending list of what the last reader tells of the words of which the others tell the lines."""
    nexts, tells = joint
    if len(lines) == 0:
        return []
    ways = ways_along((nexts, [told[:-1] for told in tells]), lines)
    level = [(0, tells[0][-1])] if ways[0][0] > 0 else []
    for behind in ways[1:]:
        level = sorted({(after, said + tells[after][-1]) for state, said in level for after in nexts[state]
                        if behind[after] > 0})
    return sorted({said for _, said in level})
