"""All words that have some answers to codes and classes."""

from twoworlds.woven import woven


class Maze:
    """The ways of words along what they are to show, to the marks that they are to have.

    A node is a pair of the number of a spot, and of how many signs are shown by then.
    """

    def __init__(self, crew, texts, marks):
        self._first = (0, 0)
        self._ends = {}
        self._steps = {}
        symbols = woven(texts)
        if symbols is not None:
            text = "".join(symbols)
            steps = _explored(crew, self._first, text)
            for node in steps:
                if node[1] == len(text) and crew.marks(node[0]) == marks:
                    self._ends[node] = True
            self._steps = _leading_to(steps, self._ends)

    def words(self, most):
        """All words of at most so many letters, shorter ones first."""
        out, level = [], [("", self._first)]
        while len(level) > 0:
            out.extend([word for word, node in level if node in self._ends])
            if len(level[0][0]) == most:
                break
            level = [(word + letter, after) for word, node in level for letter, after in self._steps.get(node, [])]
        return out

    def shortest(self):
        """The first word, or None."""
        seen, todo = {self._first: True}, [("", self._first)]
        at = 0
        while at < len(todo):
            word, node = todo[at]
            if node in self._ends:
                return word
            for letter, after in self._steps.get(node, []):
                if after not in seen:
                    seen[after] = True
                    todo.append((word + letter, after))
            at += 1
        return None

    def how_many(self):
        """The number of all words, or None if there are infinitely many."""
        entries = {node: 0 for node in self._steps}
        for node in self._steps:
            for _, after in self._steps[node]:
                entries[after] += 1
        ways = {node: 0 for node in self._steps}
        ways[self._first] = 1
        todo = [node for node in entries if entries[node] == 0]
        at = 0
        while at < len(todo):
            node = todo[at]
            for _, after in self._steps[node]:
                ways[after] += ways[node]
                entries[after] -= 1
                if entries[after] == 0:
                    todo.append(after)
            at += 1
        # What is left are rounds, along which words go on without an end.
        return sum([ways[node] for node in self._ends]) if len(todo) == len(self._steps) else None


def _explored(crew, first, text):
    """The dict from all nodes to which the first one leads to lists of pairs (letter, node), letters ascending."""
    steps, todo = {}, [first]
    while len(todo) > 0:
        node = todo.pop()
        if node not in steps:
            number, at = node
            steps[node] = sorted([(letter, (after, at + len(shown))) for letter, (after, shown, _) in zip(
                crew.letters(), crew.moves(number)) if text[at:at + len(shown)] == shown])
            todo.extend([after for _, after in steps[node]])
    return steps


def _leading_to(steps, ends):
    """The same for the nodes alone that lead to some end."""
    behind = {node: [] for node in steps}
    for node in steps:
        for _, after in steps[node]:
            behind[after].append(node)
    good, todo = {}, list(ends)
    while len(todo) > 0:
        node = todo.pop()
        if node not in good:
            good[node] = True
            todo.extend(behind[node])
    return {node: [(letter, after) for letter, after in steps[node] if after in good] for node in steps if node in good}
