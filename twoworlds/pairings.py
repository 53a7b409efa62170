"""Two words that show the same, letter by letter: what they tell of what is asked.

A NODE is a tuple (one, other, more, rest): the numbers of the spots of two words, and what
each of them shows beyond the other one. A ROW stands for a node, with spots and pairs, and
with a fourth thing behind it: what each word tells beyond the other one. SIDES are 0 for
the one word and 1 for the other; a STEP is a tuple (side, letter, node, told).
"""


class Pairing:
    """The nodes to which the first one, and those of some rows, lead."""

    def __init__(self, crew, rows):
        self._crew = crew
        self._steps = self._explored([(0, 0, "", ""), *[self._node_of(row) for row in rows]])
        self._closings = self._looked_back()

    def first_row(self):
        """The row of two empty words."""
        return self._row_of((0, 0, "", ""), ("", ""))

    def look(self):
        """A pair of all rows that can end, to which the first one leads, and None; or of None and two words that
        show and mark the same, of which unlike things are told."""
        first = (0, 0, "", "")
        asked, came, todo, at = {first: ("", "")}, {first: None}, [first], 0
        while at < len(todo):
            node = todo[at]
            for side, letter, after, more in self._steps[node]:
                if after in self._closings:
                    told, step = _told_more(asked[node], side, more), (node, side, letter)
                    is_new = after not in asked
                    if is_new:
                        asked[after], came[after] = told, step
                        todo.append(after)
                    if asked[after] != told or is_new and not self._is_good(after, told):
                        return (None, self._parted(came, step, after))
            at += 1
        return ([self._row_of(node, asked[node]) for node in todo], None)

    def are_closed(self, rows):
        """Whether each row that can end passes, and goes on within the rows."""
        inside = {(self._node_of(row), row[3]): True for row in rows}
        return all([self._is_closed(inside, node, asked) for node, asked in inside])

    def _node_of(self, row):
        """The node of a row."""
        return (self._crew.number(row[0]), self._crew.number(row[1]), row[2][0], row[2][1])

    def _row_of(self, node, asked):
        """The row of a node."""
        one, other, more, rest = node
        return (self._crew.spot(one), self._crew.spot(other), (more, rest), asked)

    def _explored(self, nodes):
        """The dict from all nodes to which some lead to their steps."""
        steps, todo = {}, list(nodes)
        while len(todo) > 0:
            node = todo.pop()
            if node not in steps:
                steps[node] = self._steps_from(node)
                todo.extend([step[2] for step in steps[node]])
        return steps

    def _steps_from(self, node):
        """The steps by which a node goes on: behind the word that shows less, or behind any of both."""
        one, other, more, rest = node
        letters, out = self._crew.letters(), []
        # One of both shows nothing beyond the other; it is the one that goes on.
        if more == "":
            for letter, (after, shown, told) in zip(letters, self._crew.moves(one)):
                if shown.startswith(rest):
                    out.append((0, letter, (after, other, shown[len(rest):], ""), told))
                elif rest.startswith(shown):
                    out.append((0, letter, (after, other, "", rest[len(shown):]), told))
        if rest == "":
            for letter, (after, shown, told) in zip(letters, self._crew.moves(other)):
                if shown.startswith(more):
                    out.append((1, letter, (one, after, "", shown[len(more):]), told))
                elif more.startswith(shown):
                    out.append((1, letter, (one, after, more[len(shown):], ""), told))
        return out

    def _looked_back(self):
        """The dict from all nodes that can end to the steps that lead there soonest, None at an end."""
        behind = {node: [] for node in self._steps}
        for node in self._steps:
            for step in self._steps[node]:
                behind[step[2]].append((node, step))
        closings = {node: None for node in self._steps if self._is_end(node)}
        todo, at = list(closings), 0
        while at < len(todo):
            last = todo[at]
            for node, step in behind[last]:
                if node not in closings:
                    closings[node] = step
                    todo.append(node)
            at += 1
        return closings

    def _is_end(self, node):
        """Whether two words show and mark the same."""
        one, other, more, rest = node
        return more == rest and self._crew.marks(one) == self._crew.marks(other)

    def _is_good(self, node, asked):
        """Whether what was told up to a node that can end lets the same be told at last."""
        if asked[0] != "" and asked[1] != "":
            return False
        if not self._is_end(node):
            return True
        return asked == ("", "") and self._crew.asked_marks(node[0]) == self._crew.asked_marks(node[1])

    def _is_closed(self, inside, node, asked):
        """Whether a node that can end passes, and has all those inside to which it goes on."""
        if node not in self._closings:
            return True
        if not self._is_good(node, asked):
            return False
        return all([(after, _told_more(asked, side, more)) in inside
                    for side, _, after, more in self._steps[node] if after in self._closings])

    def _parted(self, came, step, node):
        """Two words that part what is asked: by a step to a node, or as one came to it before, and on to an end."""
        pairs = [self._words(came, step, node), self._words(came, came[node], node)]
        return [pair for pair in pairs if self._crew.told(pair[0]) != self._crew.told(pair[1])][0]

    def _words(self, came, step, node):
        """Two words that come to a node by a step, and then to an end."""
        words = ["", ""]
        while step is not None:
            before, side, letter = step
            words[side] = letter + words[side]
            step = came[before]
        closing = self._closings[node]
        while closing is not None:
            words[closing[0]] += closing[1]
            closing = self._closings[closing[2]]
        return (words[0], words[1])


def _told_more(asked, side, more):
    """What each word tells beyond the other one if one of them tells more."""
    if more == "":
        return asked
    one, other = (asked[0] + more, asked[1]) if side == 0 else (asked[0], asked[1] + more)
    at = 0
    while at < min(len(one), len(other)) and one[at] == other[at]:
        at += 1
    return (one[at:], other[at:])
