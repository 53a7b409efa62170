"""Readers that go along words together.

A JOINT is a pair (nexts, tells) of lists, one item for each state that readers can be in
together, 0 being the first one: of the lists of the states to which the letters lead, and
of the strings of the digits of all readers there. Where a reader is asked, it is the last one.
"""

from twoworlds.alikes import first_alike


def joint_of(letters, readers):
    """The joint of some readers."""
    spots, at = [tuple([begin for begin, _ in readers])], 0
    numbers, nexts = {spots[0]: 0}, []
    while at < len(spots):
        nexts.append([])
        for letter in letters:
            spot = tuple([states[state][1][letter] for (_, states), state in zip(readers, spots[at])])
            if spot not in numbers:
                numbers[spot] = len(spots)
                spots.append(spot)
            nexts[at].append(numbers[spot])
        at += 1
    tells = ["".join([str(states[state][0]) for (_, states), state in zip(readers, spot)]) for spot in spots]
    return (nexts, tells)


def merged(joint):
    """A joint that tells the same, in which no two states that come up are alike."""
    nexts, tells = joint
    firsts = first_alike(tells, nexts)
    return ([[firsts[after] for after in row] for row in nexts], tells)


def least_of(letters, joint):
    """The reader with the fewest states that tells what the one reader of a joint tells."""
    nexts, tells = merged(joint)
    met, at = [0], 0
    while at < len(met):
        state = met[at]
        for after in nexts[state]:
            if after not in met:
                met.append(after)
        at += 1
    names = {one: f"s{place}" for place, one in enumerate(met)}
    return ("s0", {names[one]: (int(tells[one]), {letter: names[other] for letter, other in zip(letters, nexts[one])})
                   for one in met})


def told_along(joint, places):
    """What is told of a word, the letters of which stand at some places in their order."""
    nexts, tells = joint
    state, out = 0, tells[0]
    for place in places:
        state = nexts[state][place]
        out += tells[state]
    return out


def can_part(joint):
    """Whether two words of one length are told alike by all but the last reader, and not by that one."""
    nexts, tells = joint
    seen, todo = {(0, 0): True}, [(0, 0)]
    while len(todo) > 0:
        one, other = todo.pop()
        for first in nexts[one]:
            for second in nexts[other]:
                pair = (min(first, second), max(first, second))
                if pair not in seen and tells[first][:-1] == tells[second][:-1]:
                    if tells[first] != tells[second]:
                        return True
                    seen[pair] = True
                    todo.append(pair)
    return False


def least_parted(letters, joint):
    """The pair of two such words with the least second one, and with this the least first one, or None."""
    nexts, tells = joint
    # Words stand here as strings of the places of their letters, the second one first, so that they are ordered.
    level, seen = {(0, 0, True): ("", "")}, {}
    while len(level) > 0:
        parted = [level[node] for node in level if tells[node[0]][-1] != tells[node[1]][-1]]
        if len(parted) > 0:
            second, first = ["".join([letters[int(place)] for place in word]) for word in min(parted)]
            return (first, second)
        following = {}
        for node in level:
            seen[node] = True
        for node in level:
            for after, ends in _onward(nexts, node):
                if after not in seen and tells[after[0]][:-1] == tells[after[1]][:-1]:
                    words = (level[node][0] + ends[0], level[node][1] + ends[1])
                    following[after] = min(words, following.get(after, words))
        level = following
    return None


def _onward(nexts, node):
    """Pairs of the nodes to which letters lead, and of the places of these; a node is two states, and whether both
    words are the same."""
    one, other, is_same = node
    out = []
    for first, after in enumerate(nexts[one]):
        for second, later in enumerate(nexts[other]):
            # The first word is to be ahead of the second one.
            if not is_same or first <= second:
                out.append(((after, later, is_same and first == second), (str(second), str(first))))
    return out
