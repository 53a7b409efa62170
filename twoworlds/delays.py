"""What is told late, and plans that read what is told place by place."""

from twoworlds.checks import DIGITS, is_digit, is_name, is_one_of, is_pair, is_string_of


class Twins:
    """All pairs of states in which two words of one length can be that are told alike by all but the last reader."""

    def __init__(self, joint):
        nexts, tells = joint
        self._tells = tells
        self._steps, self._came, todo = {}, {(0, 0): None}, [(0, 0)]
        at = 0
        while at < len(todo):
            pair = todo[at]
            self._steps[pair] = []
            for first, one in enumerate(nexts[pair[0]]):
                for second, other in enumerate(nexts[pair[1]]):
                    if tells[one][:-1] == tells[other][:-1]:
                        self._steps[pair].append((first, second, (one, other)))
                        if (one, other) not in self._came:
                            self._came[(one, other)] = (first, second, pair)
                            todo.append((one, other))
            at += 1
        self._depths = self._looked_onward()

    def lag(self):
        """The least number of last places without which the last reader tells the same, or None."""
        parted = self._parted()
        if not all([pair in self._depths for pair in parted]):
            return None
        return max([0, *[self._depths[pair] + 1 for pair in parted]])

    def words(self, n):
        """Two words, as lists of the places of letters, that are parted n places ahead of the last one, or None."""
        parted = [pair for pair in self._parted() if self._goes_on(pair, n)]
        if len(parted) == 0:
            return None
        one, other, pair = [], [], parted[0]
        while self._came[pair] is not None:
            first, second, pair = self._came[pair]
            one.append(first)
            other.append(second)
        one, other, pair = one[::-1], other[::-1], parted[0]
        for left in reversed(range(n)):
            first, second, pair = [step for step in self._steps[pair] if self._goes_on(step[2], left)][0]
            one.append(first)
            other.append(second)
        return (one, other)

    def _parted(self):
        """The pairs at which the last reader tells unlike digits."""
        return [(one, other) for one, other in self._steps if self._tells[one][-1] != self._tells[other][-1]]

    def _goes_on(self, pair, many):
        """Whether so many steps lead on from a pair."""
        return pair not in self._depths or self._depths[pair] >= many

    def _looked_onward(self):
        """The dict from all pairs to the number of steps that lead on from them at most, but those without an end."""
        left = {pair: len(self._steps[pair]) for pair in self._steps}
        behind = {pair: [] for pair in self._steps}
        for pair in self._steps:
            for step in self._steps[pair]:
                behind[step[2]].append(pair)
        depths = {pair: 0 for pair in self._steps if left[pair] == 0}
        todo, at = list(depths), 0
        while at < len(todo):
            last = todo[at]
            for pair in behind[last]:
                left[pair] -= 1
                if left[pair] == 0:
                    depths[pair] = 1 + max([depths[step[2]] for step in self._steps[pair]])
                    todo.append(pair)
            at += 1
        return depths


def plan_for(joint, n):
    """A plan that tells what the last reader told n places ago, by the digits of all others, or None."""
    nexts, tells = joint
    groups, at = [((0, ""),)], 0
    numbers, rows = {groups[0]: 0}, {}
    while at < len(groups):
        group, read = groups[at], {}
        for state, kept in group:
            read.setdefault(tells[state][:-1], []).append((state, *_shifted(kept, tells[state][-1], n)))
        row = {}
        for digits in sorted(read):
            if len(set([digit for _, digit, _ in read[digits]])) > 1:
                return None
            after = tuple(sorted({(later, kept) for state, _, kept in read[digits] for later in nexts[state]}))
            if after not in numbers:
                numbers[after] = len(groups)
                groups.append(after)
            row[digits] = (read[digits][0][1], f"s{numbers[after]}")
        rows[f"s{at}"] = row
        at += 1
    return ("s0", rows)


def is_plan_for(joint, n, thing):
    """Whether any object is a plan that tells what the last reader told n places ago."""
    nexts, tells = joint
    if not _is_of_kind(len(tells[0]) - 1, n, thing):
        return False
    seen, todo = {}, [(0, thing[0], "")]
    while len(todo) > 0:
        state, name, kept = todo.pop()
        # Unlike digits that are still to be told can not be told from one name on.
        if seen.get((state, name), kept) != kept:
            return False
        if (state, name) not in seen:
            seen[(state, name)] = kept
            row, digits = thing[1][name], tells[state][:-1]
            digit, left = _shifted(kept, tells[state][-1], n)
            if digits not in row or row[digits][0] != digit:
                return False
            todo.extend([(after, row[digits][1], left) for after in nexts[state]])
    return True


def read_along(plan, lines):
    """The string of the digits that a plan tells, by the digits of each place; None where it has no row."""
    name, rows = plan
    out = ""
    for digits in lines:
        if digits not in rows[name]:
            return None
        digit, name = rows[name][digits]
        out += str(digit)
    return out


def _shifted(kept, digit, n):
    """A pair of the digit that is told now, or None, and of those that are kept, n at most."""
    if len(kept) < n:
        return (None, kept + digit)
    return (int((kept + digit)[0]), (kept + digit)[1:])


def _is_of_kind(many, n, thing):
    """Whether any object is a pair of a name and of a dict from names to rows by so many digits."""
    if not is_pair(thing) or not isinstance(thing[1], dict) or not is_one_of(thing[1], thing[0]):
        return False
    rows = thing[1]
    if not all([is_name(name) and isinstance(rows[name], dict) for name in rows]):
        return False
    return all([is_string_of(DIGITS, digits) and len(digits) == many and _is_step(rows, n, rows[name][digits])
                for name in rows for digits in rows[name]])


def _is_step(rows, n, thing):
    """Whether any object is a pair of a digit, or None if something is told late, and of a name."""
    if not is_pair(thing) or not is_one_of(rows, thing[1]):
        return False
    return is_digit(thing[0]) or n > 0 and thing[0] is None
