"""Trees of questions of a table, and holds, which show that few questions are not enough."""

from math import gcd

from twoworlds.checks import asked_files, check_weights, is_count, is_integer, is_list, is_one_of, is_pair
from twoworlds.errors import BadNumber, BadTree


class Search:
    """Looks for the cheapest trees among the rows of a table.

    Rows stand here by their indexes, a part being an ascending tuple of these.
    Without weights the cost of a tree is its depth; with weights it is the sum,
    over all rows, of the weight times the number of questions asked.
    """

    def __init__(self, table, asked, of, weights):
        self._rows = table.rows()
        self._asked = asked
        self._of = of
        self._weights = weights
        self._bests = {}

    def whole(self):
        """The part of all rows."""
        return tuple(range(len(self._rows)))

    def parts_of(self, part, question):
        """The dict from the answers to a question to the parts that have them."""
        lists = {}
        for index in part:
            lists.setdefault(self._rows[index][question], []).append(index)
        return {answer: tuple(lists[answer]) for answer in lists}

    def cost(self, part):
        """The least cost of a tree that finds asked among a part, or None if there is none."""
        return self._best(part)[0]

    def tree(self, part):
        """A tree of the least cost, where there is one."""
        question = self._best(part)[1]
        if question is None:
            return self._rows[part[0]][self._asked]
        parts = self.parts_of(part, question)
        return (question, {answer: self.tree(parts[answer]) for answer in parts})

    def hold(self, part, depth):
        """A hold of a depth for a part that no tree of less depth finds; without weights alone."""
        if depth == 0:
            return ()
        out = {}
        for question in self._of:
            parts = self.parts_of(part, question)
            answer = [one for one in parts if self.is_hard(parts[one], depth - 1)][0]
            out[question] = (answer, self.hold(parts[answer], depth - 1))
        return out

    def is_hard(self, part, depth):
        """Whether no tree of less than a depth finds asked among a part; without weights alone."""
        cost = self.cost(part)
        return cost is None or cost >= depth

    def _best(self, part):
        """A pair of the least cost and the question to begin with, which is None at a leaf or without a tree."""
        if part not in self._bests:
            if len(self.parts_of(part, self._asked)) == 1:
                self._bests[part] = (0, None)
            else:
                self._bests[part] = self._best_question(part)
        return self._bests[part]

    def _best_question(self, part):
        """The same for a part with unlike answers to asked."""
        best = (None, None)
        for question in self._of:
            parts = self.parts_of(part, question)
            # A question that all rows of the part answer alike leaves them as they are, at a cost.
            if len(parts) > 1:
                cost = self._cost_of(part, [self.cost(parts[answer]) for answer in parts])
                if cost is not None and (best[0] is None or cost < best[0]):
                    best = (cost, question)
        return best

    def _cost_of(self, part, costs):
        """The cost of a tree over a part by those of the trees below."""
        if None in costs:
            return None
        if self._weights is None:
            return 1 + max(costs)
        return sum([self._weights[index] for index in part]) + sum(costs)


def is_tree(table, asked, thing, of=None):
    """Whether any object is a tree that finds asked among all rows."""
    names = asked_files(table, asked, of)
    search = Search(table, asked, names, None)
    left = [(thing, search.whole())]
    while left:
        tree, part = left.pop()
        if is_integer(tree):
            if list(search.parts_of(part, asked)) != [tree]:
                return False
        elif not is_pair(tree) or not is_one_of(names, tree[0]) or not isinstance(tree[1], dict):
            return False
        else:
            parts = search.parts_of(part, tree[0])
            if not _has_integers(tree[1], parts):
                return False
            left.extend([(tree[1][answer], parts[answer]) for answer in parts])
    return True


def depth_of(table, asked, tree, of=None):
    """The depth of a tree that finds asked."""
    if not is_tree(table, asked, tree, of):
        raise BadTree(tree)
    depth = 0
    level = [tree]
    while True:
        level = [part[1][answer] for part in level if is_list(part) for answer in part[1]]
        if not level:
            return depth
        depth += 1


def fewest(table, asked, of=None):
    """A pair of the least depth of a tree that finds asked, and such a tree, or None."""
    search = Search(table, asked, asked_files(table, asked, of), None)
    part = search.whole()
    if search.cost(part) is None:
        return None
    return (search.cost(part), search.tree(part))


def mean_fewest(table, weights, asked, of=None):
    """A pair of the least mean number of questions, and a tree that has it, or None."""
    check_weights(weights, len(table))
    search = Search(table, asked, asked_files(table, asked, of), list(weights))
    part = search.whole()
    cost = search.cost(part)
    if cost is None:
        return None
    weight = sum(list(weights))
    common = gcd(cost, weight)
    return ((cost // common, weight // common), search.tree(part))


def hold(table, asked, n, of=None):
    """A hold of depth n for all rows, or None."""
    search = Search(table, asked, asked_files(table, asked, of), None)
    if not is_count(n):
        raise BadNumber(n)
    part = search.whole()
    if not search.is_hard(part, n):
        return None
    return search.hold(part, n)


def is_hold(table, asked, n, thing, of=None):
    """Whether any object is a hold of depth n for all rows."""
    names = asked_files(table, asked, of)
    if not is_count(n):
        raise BadNumber(n)
    search = Search(table, asked, names, None)
    left = [(thing, search.whole(), n)]
    while left:
        one, part, depth = left.pop()
        if depth == 0:
            if not is_list(one) or len(one) != 0:
                return False
        elif len(search.parts_of(part, asked)) == 1 or not isinstance(one, dict) or len(one) != len(names):
            return False
        else:
            for name in names:
                if name not in one or not is_pair(one[name]) or not is_integer(one[name][0]):
                    return False
                answer, below = one[name]
                parts = search.parts_of(part, name)
                if answer not in parts:
                    return False
                left.append((below, parts[answer], depth - 1))
    return True


def _has_integers(thing, right):
    """Whether a dict has just the integers of another one as keys."""
    return len(thing) == len(right) and all([is_integer(key) and key in right for key in thing])
