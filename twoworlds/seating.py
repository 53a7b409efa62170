"""How people can stand in a row, each within a window of places.

WINDOWS are a dict from people to pairs (first, last) of places; FIXED is a dict from
some people to the places at which they stand.
"""

from twoworlds.checks import is_integer, is_list, is_one_of, is_pair

PLACE = "at."


def place_of(question):
    """The place that a question asks about, or None for one of people."""
    return int(question[len(PLACE):]) if question.startswith(PLACE) else None


def is_place(windows, thing):
    """Whether any object is one of the places."""
    return is_integer(thing) and 0 <= thing < len(windows)


def is_within(window, place):
    """Whether a place lies in a window, or in a stretch."""
    return window[0] <= place <= window[1]


def is_stretch(windows, thing):
    """Whether any object is a pair of places, the first one at most the last one."""
    return is_pair(thing) and is_place(windows, thing[0]) and is_place(windows, thing[1]) and thing[0] <= thing[1]


def stretches(windows):
    """All stretches, in order."""
    return [(first, last) for first in range(len(windows)) for last in range(first, len(windows))]


def room_of(windows, stretch):
    """The number of places of a stretch, less that of people who must stand there."""
    must = [name for name in windows if stretch[0] <= windows[name][0] and windows[name][1] <= stretch[1]]
    return stretch[1] - stretch[0] + 1 - len(must)


def room_asked(windows, swap, stretch):
    """Which room of a stretch a swap asks for."""
    one, other, first, last = swap
    inside = [place for place in (first, last) if is_within(stretch, place)]
    if len(inside) < 2:
        return len(inside)
    return len([name for name in (one, other) if windows[name][0] < stretch[0] or stretch[1] < windows[name][1]])


def swaps_asked(windows):
    """All tuples of two people and two places that both have in their windows, by the order of people and places."""
    people = list(windows)
    out = []
    for at, one in enumerate(people):
        for other in people[at + 1:]:
            low = max(windows[one][0], windows[other][0])
            high = min(windows[one][1], windows[other][1])
            out.extend([(one, other, first, last) for first in range(low, high) for last in range(first + 1, high + 1)])
    return out


def fixed_by(windows, facts):
    """The people fixed by a dict from questions to answers of any kind, or None if no row can have them."""
    fixed = {}
    for question in facts:
        place, name = place_of(question), facts[question]
        if place is None:
            place, name = facts[question], question
        if not is_one_of(windows, name) or not is_integer(place) or not is_within(windows[name], place):
            return None
        if fixed.get(name, place) != place:
            return None
        fixed[name] = place
    return fixed if len(set([fixed[name] for name in fixed])) == len(fixed) else None


def seated(windows, fixed):
    """A row in which the fixed people stand where they do, or None."""
    row = [None] * len(windows)
    for name in fixed:
        row[fixed[name]] = name
    waiting = [name for name in windows if name not in fixed]
    for place in range(len(windows)):
        if row[place] is None:
            # Of all who can stand here, the one who must come first leaves most to the others.
            ready = [name for name in waiting if is_within(windows[name], place)]
            if len(ready) == 0:
                return None
            row[place] = min(ready, key=lambda one: windows[one][1])
            waiting = [name for name in waiting if name != row[place]]
    return row


def seated_by(windows, facts):
    """A row that has facts, or None."""
    fixed = fixed_by(windows, facts)
    return None if fixed is None else seated(windows, fixed)


def changed(row, pair):
    """A row in which two people have changed their places."""
    others = {pair[0]: pair[1], pair[1]: pair[0]}
    return [others.get(name, name) for name in row]


def answer_of(row, question):
    """The answer to a question in a row."""
    place = place_of(question)
    return row.index(question) if place is None else row[place]


def is_row(windows, thing):
    """Whether any object is a list of all people, each within its window."""
    if not is_list(thing) or len(thing) != len(windows):
        return False
    if not all([is_one_of(windows, name) for name in thing]) or len(set(thing)) < len(thing):
        return False
    return all([is_within(windows[name], place) for place, name in enumerate(thing)])


def ways_left(windows, fixed):
    """A list of the numbers of ways in which the others can stand, by the bits of the places that the first people
    of windows have taken."""
    options = [[place for place in range(len(windows)) if is_within(windows[name], place)
                and fixed.get(name, place) == place] for name in windows]
    sizes, full = [0], (1 << len(options)) - 1
    for taken in range(1, full + 1):
        sizes.append(sizes[taken >> 1] + (taken & 1))
    ways = [0] * full + [1]
    for taken in reversed(range(full)):
        free = [place for place in options[sizes[taken]] if not taken >> place & 1]
        ways[taken] = sum([ways[taken | 1 << place] for place in free])
    return ways
