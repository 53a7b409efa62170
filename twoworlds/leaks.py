"""The shortest leaks: what may still be needed is reckoned at least, so that few ways have to be gone."""


class Search:
    """Looks for as few tellings as can be by which a hand comes to know what is asked.

    A state is a tuple of the sets of what all hands know. At least so many tellings are
    left as some hand lacks questions that tell it what is asked, and as there are links
    from there to the hand that is to know it.
    """

    def __init__(self, minds, hands, links, name, asked):
        self._minds = minds
        self._names = list(hands)
        self._far = _far_off(links, name)
        self._links = [(one, other) for one, other in links if one in self._far and other in self._far]
        self._target = self._names.index(name)
        self._asked = minds.bit(asked)
        self._first = minds.at_first(hands)
        last = minds.at_last(self._first, self._links)
        self._useful = [bit for bit in _bits_of([last[one] for one in last]) if bit != self._asked]
        self._is_open = last[name] & self._asked > 0
        self._lacks = {}

    def found(self):
        """The tellings, or None."""
        if not self._is_open:
            return None
        first = tuple([self._first[one] for one in self._names])
        costs, came, done = {first: 0}, {first: None}, {}
        waiting, at = {self._least_left(first): [first]}, 0
        while True:
            states = waiting.setdefault(at, [])
            while len(states) > 0:
                state = states.pop()
                if state[self._target] & self._asked > 0:
                    return self._tellings(came, state)
                if state not in done:
                    done[state] = True
                    for after, telling in self._told_once(state):
                        if costs.get(after, costs[state] + 2) > costs[state] + 1:
                            costs[after], came[after] = costs[state] + 1, (state, telling)
                            waiting.setdefault(costs[after] + self._least_left(after), []).append(after)
            at += 1

    def _told_once(self, state):
        """Pairs of the states that come by one telling, and of the telling."""
        out = []
        for one, other in self._links:
            place = self._names.index(other)
            new = state[self._names.index(one)] & ~state[place]
            for bit in _bits_of([new]):
                after = self._minds.told(state[place] | bit)
                out.append(((*state[:place], after, *state[place + 1:]), (one, other, bit)))
        return out

    def _least_left(self, state):
        """At least so many tellings are left."""
        lacks = [(self._lack(known), self._far[name]) for name, known in zip(self._names, state) if name in self._far]
        return min([lack + far for lack, far in lacks if lack is not None])

    def _lack(self, known):
        """The least number of questions other than what is asked that a set lacks to tell it, or None."""
        if known not in self._lacks:
            if known & self._asked > 0:
                self._lacks[known] = 0
            else:
                after = [self._lack(self._minds.told(known | bit)) for bit in self._useful if not known & bit]
                self._lacks[known] = min([lack + 1 for lack in after if lack is not None], default=None)
        return self._lacks[known]

    def _tellings(self, came, state):
        """The tellings by which one came to a state."""
        out = []
        while came[state] is not None:
            state, (one, other, bit) = came[state]
            out.append((one, other, self._minds.names_of(bit)[0]))
        return out[::-1]


def shortest_leak(minds, hands, links, name, asked):
    """As few tellings as can be, behind which a hand knows what is asked, or None."""
    return Search(minds, hands, links, name, asked).found()


def _far_off(links, name):
    """The dict from all hands from which links lead to one to the number of these, at least."""
    far, todo, at = {name: 0}, [name], 0
    while at < len(todo):
        for one, other in links:
            if other == todo[at] and one not in far:
                far[one] = far[other] + 1
                todo.append(one)
        at += 1
    return far


def _bits_of(sets):
    """The sets of one question each that stand in some sets, ascending."""
    whole = 0
    for one in sets:
        whole = whole | one
    return [1 << place for place in range(whole.bit_length()) if whole >> place & 1]
