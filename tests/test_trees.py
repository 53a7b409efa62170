"""Promises [23] to [25]: trees and holds."""

import random
import unittest
from fractions import Fraction

from tests.helpers import any_objects, caught, drawn_names, drawn_table, not_integers, plainly_told
from twoworlds.errors import BadKnown, BadNumber, BadTree, BadWeight, NoQuestion
from twoworlds.tables import Table
from twoworlds.trees import depth_of, fewest, hold, is_hold, is_tree, mean_fewest

BITS = Table([{"a": x, "b": y, "c": x, "s": x ^ y} for x in (0, 1) for y in (0, 1)])


def parts(rows, name):
    out = {}
    for row in rows:
        out.setdefault(row[name], []).append(row)
    return out


def plain_depth(rows, asked, of):
    """The least depth by going through all choices, a question being asked at most once on a path."""
    if len(parts(rows, asked)) == 1:
        return 0
    best = None
    for name in of:
        below = [plain_depth(part, asked, [n for n in of if n != name]) for part in parts(rows, name).values()]
        if None not in below and (best is None or 1 + max(below) < best):
            best = 1 + max(below)
    return best


def plain_cost(rows, asked, of):
    """The least sum of weights times questions; rows are pairs (row, weight)."""
    if len({row[asked] for row, _ in rows}) == 1:
        return 0
    best = None
    for name in of:
        lists = {}
        for row, weight in rows:
            lists.setdefault(row[name], []).append((row, weight))
        below = [plain_cost(part, asked, [n for n in of if n != name]) for part in lists.values()]
        if None not in below:
            cost = sum(weight for _, weight in rows) + sum(below)
            best = cost if best is None or cost < best else best
    return best


def asked_at(tree, row):
    """How many questions a tree asks of a row, and what it finds."""
    many = 0
    while isinstance(tree, tuple):
        many, tree = many + 1, tree[1][row[tree[0]]]
    return many, tree


class TestTrees(unittest.TestCase):
    def test_finding(self):
        tree = ("a", {0: ("b", {0: 0, 1: 1}), 1: ("b", {0: 1, 1: 0})})
        self.assertIs(is_tree(BITS, "s", tree), True)
        self.assertIs(is_tree(of=["b", "a"], thing=tree, asked="s", table=BITS), True)
        self.assertEqual(depth_of(BITS, "s", tree), 2)
        self.assertEqual(depth_of(of=("b", "a"), tree=tree, asked="s", table=BITS), 2)
        lists = ["a", {0: ["b", {0: 0, 1: 1}], 1: ("b", {0: 1, 1: 0})}]
        self.assertTrue(is_tree(BITS, "s", lists))
        self.assertEqual(depth_of(BITS, "s", lists), 2)
        twice = ("a", {0: ("a", {0: ("b", {0: 0, 1: 1})}), 1: ("b", {1: 0, 0: 1})})
        self.assertTrue(is_tree(BITS, "s", twice))
        self.assertEqual(depth_of(BITS, "s", twice), 3)
        self.assertTrue(is_tree(BITS, "s", ("s", {0: 0, 1: 1}), ["s"]))
        self.assertFalse(is_tree(BITS, "s", ("s", {0: 0, 1: 1})))
        self.assertTrue(is_tree(Table([{"a": 4}, {"a": 4}]), "a", 4))
        self.assertEqual(depth_of(Table([{"a": 4}]), "a", 4), 0)

    def test_long_paths(self):
        deep = ("b", {0: 0})
        for _ in range(5000):
            deep = ("b", {0: deep})
        one = Table([{"a": 0, "b": 0}])
        self.assertTrue(is_tree(one, "a", deep))
        self.assertEqual(depth_of(one, "a", deep), 5001)

    def test_bent(self):
        leaf = {0: 0, 1: 1}
        for bent in (("a", {0: ("b", leaf)}), ("a", {0: ("b", leaf), 1: ("b", {0: 1, 1: 0}), 2: 0}),
                     ("a", {0: ("b", leaf), 1: ("b", leaf)}), ("a", {0: ("b", leaf), 1: ("b", {0: 1, 1: 0, 2: 0})}),
                     ("zz", {0: 0, 1: 1}), (["a"], {}), ("a", {}), ("a",), ("a", leaf, 1), ("a", [0, 1]),
                     ("a", {0: ("b", leaf), 1: ("b", {0: True, 1: 0})}), ("a", {0: ("b", leaf), 1: ("b", {0: 1})}),
                     ("a", {0: ("b", leaf), 1: ("b", {0: 1, 1: False})}), "ab", 0, 1, None,
                     ("a", {False: ("b", leaf), 1: ("b", {0: 1, 1: 0})}),
                     ("a", {0: ("b", leaf), True: ("b", {0: 1, 1: 0})})):
            self.assertIs(is_tree(BITS, "s", bent), False, bent)
            self.assertIs(caught(BadTree, depth_of, BITS, "s", bent).thing, bent)
        for bent in (("c", [0, 1]), ("c", {0: 0, 2: 1}), ("c", {0: 0}), ("c", {0: 0, "1": 1}), ("c", ({0: 0}, {1: 1})),
                     ("c", {0: 1, 1: 0}), ("c", None)):
            self.assertIs(is_tree(BITS, "a", bent), False, bent)
        tree = ("a", {0: ("b", leaf), 1: ("b", {0: 1, 1: 0})})
        self.assertFalse(is_tree(BITS, "s", tree, ["a", "c"]))
        self.assertFalse(is_tree(BITS, "s", tree, []))
        self.assertIs(caught(BadTree, depth_of, BITS, "s", tree, ["a", "c"]).thing, tree)

    def test_any_objects(self):
        one = Table([{"a": 1, "b": 1}, {"a": 1, "b": 2}])
        for thing in any_objects():
            right = type(thing) is int and thing == 1
            self.assertIs(is_tree(one, "a", thing), right, thing)
            if not right:
                self.assertIs(caught(BadTree, depth_of, one, "a", thing).thing, thing)
        zero = Table([{"a": 0, "b": 0}])
        self.assertFalse(is_tree(zero, "a", False))
        self.assertTrue(is_tree(zero, "b", ["a", {0: 0}]))
        self.assertFalse(is_tree(zero, "b", ["a", {False: 0}]))

    def test_errors_ahead(self):
        for work, rest in ((is_tree, (3,)), (depth_of, ("no tree",)), (fewest, ()), (hold, ("no number",)),
                           (is_hold, ("no number", 3))):
            for thing in any_objects():
                if thing not in ("a", "b", "c", "s"):
                    self.assertIs(caught(NoQuestion, work, BITS, thing, *rest, 4).name, thing)
                    self.assertEqual(caught(BadKnown, work, BITS, "s", *rest, ["a", thing]).index, 1)
                if thing is not None and not isinstance(thing, (list, tuple)):
                    self.assertEqual(caught(BadKnown, work, BITS, "s", *rest, thing).index, 0)


class TestFewest(unittest.TestCase):
    def test_drawn(self):
        rng = random.Random(24)
        for _ in range(250):
            table = drawn_table(rng, most_rows=7, most_questions=5, most_answer=rng.choice((2, 3)))
            rows, questions = table.rows(), table.questions()
            asked = rng.choice(questions)
            of = rng.choice((None, drawn_names(rng, questions)))
            names = [name for name in questions if name != asked] if of is None else of
            depth = plain_depth(rows, asked, names)
            self.assertEqual(depth is not None, plainly_told(rows, names, asked))
            told = fewest(table, asked, of)
            weights = [rng.randint(1, 6) for _ in rows]
            mean = mean_fewest(table, weights, asked, of)
            if depth is None:
                self.assertIsNone(told)
                self.assertIsNone(mean)
                continue
            self.assertIs(type(told), tuple)
            self.assertEqual(told[0], depth)
            self.assertEqual(depth_of(table, asked, told[1], of), depth)
            self.look_at_mean(table, asked, names, weights, mean)
            self.assertEqual(fewest(of=of, asked=asked, table=table), told)
            self.assertEqual(mean_fewest(of=of, weights=tuple(weights), asked=asked, table=table), mean)

    def look_at_mean(self, table, asked, names, weights, mean):
        rows = table.rows()
        (top, bottom), tree = mean
        cost = plain_cost(list(zip(rows, weights)), asked, names)
        right = Fraction(cost, sum(weights))
        self.assertEqual((top, bottom), (right.numerator, right.denominator))
        self.assertTrue(is_tree(table, asked, tree, names))
        self.assertEqual(sum(weight * asked_at(tree, row)[0] for row, weight in zip(rows, weights)), cost)
        for row in rows:
            self.assertEqual(asked_at(tree, row)[1], row[asked])

    def test_examples(self):
        self.assertEqual(fewest(BITS, "s")[0], 2)
        self.assertEqual(fewest(BITS, "a"), (1, ("c", {0: 0, 1: 1})))
        self.assertIsNone(fewest(BITS, "s", ["a", "c"]))
        self.assertEqual(fewest(BITS, "s", ["s"])[0], 1)
        self.assertEqual(fewest(Table([{"a": 3}]), "a"), (0, 3))
        self.assertEqual(mean_fewest(Table([{"a": 3}]), [5], "a"), ((0, 1), 3))
        self.assertEqual(mean_fewest(BITS, [1, 1, 1, 1], "a")[0], (1, 1))
        uneven = Table([{"p": 1, "q": 0, "s": 1}, {"p": 0, "q": 1, "s": 2}, {"p": 0, "q": 0, "s": 3}])
        self.assertEqual(mean_fewest(uneven, [5, 1, 1], "s")[0], (9, 7))
        self.assertEqual(mean_fewest(uneven, [5, 1, 1], "s")[1][0], "p")
        self.assertEqual(mean_fewest(uneven, [1, 5, 1], "s")[1][0], "q")
        self.assertEqual(mean_fewest(uneven, [1, 1, 1], "s")[0], (5, 3))

    def test_told_is_new(self):
        told = fewest(BITS, "s")
        told[1][1].clear()
        self.assertTrue(is_tree(BITS, "s", fewest(BITS, "s")[1]))
        weights = [1, 1, 1, 1]
        mean_fewest(BITS, weights, "s")[1][1].clear()
        self.assertEqual(weights, [1, 1, 1, 1])
        self.assertTrue(is_tree(BITS, "s", mean_fewest(BITS, weights, "s")[1]))

    def test_bad_weights(self):
        for thing in any_objects():
            if not isinstance(thing, (list, tuple)):
                self.assertEqual(caught(BadWeight, mean_fewest, BITS, thing, "zz", 3).index, 0)
            if type(thing) is not int or thing < 1:
                self.assertEqual(caught(BadWeight, mean_fewest, BITS, [1, thing], "zz", 3).index, 1)
                self.assertEqual(caught(BadWeight, mean_fewest, BITS, [1, 1, 1, 1, thing], "s").index, 4)
        self.assertEqual(caught(BadWeight, mean_fewest, BITS, [], "zz").index, 0)
        self.assertEqual(caught(BadWeight, mean_fewest, BITS, [1, 1, 1], "zz").index, 3)
        self.assertEqual(caught(BadWeight, mean_fewest, BITS, [1, 1, 1, 1, 2], "zz").index, 5)
        self.assertEqual(caught(NoQuestion, mean_fewest, BITS, [1, 1, 1, 1], "zz", 3).name, "zz")
        self.assertEqual(caught(BadKnown, mean_fewest, BITS, [1, 1, 1, 1], "s", 3).index, 0)
        self.assertEqual(caught(BadKnown, mean_fewest, BITS, [1, 1, 1, 1], "s", ["a", "a"]).index, 1)


class TestHolds(unittest.TestCase):
    def test_drawn(self):
        rng = random.Random(25)
        for _ in range(250):
            table = drawn_table(rng, most_rows=8, most_questions=5, most_answer=rng.choice((2, 3)))
            rows, questions = table.rows(), table.questions()
            asked = rng.choice(questions)
            of = rng.choice((None, drawn_names(rng, questions)))
            names = [name for name in questions if name != asked] if of is None else of
            depth = plain_depth(rows, asked, names)
            for n in range(5):
                told = hold(table, asked, n, of)
                self.assertEqual(told is not None, depth is None or depth >= n)
                if told is not None:
                    self.assertTrue(is_hold(table, asked, n, told, of))
                    self.assertEqual(self.right(rows, asked, names, n, told), True)
                    self.assertEqual(is_hold(table, asked, n + 1, told, of), n > 0 and not names)
                    self.assertEqual(hold(of=of, n=n, asked=asked, table=table), told)
                    self.bend(rng, table, asked, names, n, told)

    def right(self, rows, asked, names, n, told):
        """A hold by its rule."""
        if n == 0:
            return told == ()
        return (len(parts(rows, asked)) > 1 and sorted(told) == sorted(names)
                and all(type(told[name]) is tuple and told[name][0] in parts(rows, name) and self.right(
                    parts(rows, name)[told[name][0]], asked, names, n - 1, told[name][1]) for name in names))

    def bend(self, rng, table, asked, names, n, told):
        if n == 0 or not names:
            return
        name = rng.choice(names)
        answer, below = told[name]
        bents = [{key: told[key] for key in names if key != name}, {key if key != name else "zz": told[key]
                                                                    for key in names}, {**told, "zz": (0, ())},
                 {**told, name: (99, below)}, {**told, name: (answer,)}, {**told, name: below},
                 {**told, name: (bool(answer), below)}, {**told, name: (answer, 3)}, {**told, name: (answer, below, 1)},
                 [told], ()]
        for bent in bents:
            self.assertFalse(is_hold(table, asked, n, bent, names), bent)
        self.assertTrue(is_hold(table, asked, n, {**told, name: [answer, below]}, names))
        self.assertTrue(is_hold(table, asked, n, dict(list(told.items())[::-1]), names))

    def test_examples(self):
        self.assertEqual(hold(BITS, "s", 0), ())
        self.assertTrue(is_hold(BITS, "s", 0, []))
        self.assertFalse(is_hold(BITS, "s", 0, {}))
        self.assertEqual(list(hold(BITS, "s", 1)), ["a", "b", "c"])
        self.assertIsNone(hold(BITS, "s", 3))
        self.assertIsNone(hold(BITS, "a", 2))
        self.assertIsNotNone(hold(BITS, "s", 4, ["a", "c"]))
        self.assertEqual(hold(BITS, "s", 4, []), {})
        self.assertTrue(is_hold(of=[], thing={}, n=4, asked="s", table=BITS))
        self.assertFalse(is_hold(Table([{"a": 1, "b": 1}]), "a", 1, {}, []))
        told = hold(BITS, "s", 2)
        told["a"][1].clear()
        self.assertTrue(is_hold(BITS, "s", 2, hold(BITS, "s", 2)))
        one = hold(BITS, "s", 3, ["a", "c"])
        self.assertIsNot(one["a"][1], one["c"][1])

    def test_any_objects(self):
        for thing in any_objects():
            self.assertIs(is_hold(BITS, "s", 0, thing), thing in ((), []), thing)
            self.assertIs(is_hold(BITS, "s", 1, thing), False)
            self.assertIs(is_hold(Table([{"a": 1, "b": 1}, {"a": 2, "b": 1}]), "a", 1, thing, []), thing == {}, thing)

    def test_numbers(self):
        for thing in not_integers():
            self.assertIs(caught(BadNumber, hold, BITS, "s", thing).thing, thing)
            self.assertIs(caught(BadNumber, is_hold, BITS, "s", thing, 3, ["a"]).thing, thing)


if __name__ == "__main__":
    unittest.main()
