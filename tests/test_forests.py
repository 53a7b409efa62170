"""Promises [50] and [51]: cheapest files of a net, and hidings."""

import random
import unittest

from tests.helpers import any_objects, caught, drawn_names, drawn_net, subsets
from twoworlds.engine import least_files
from twoworlds.errors import BadAmounts, BadKnown, NoQuestion
from twoworlds.forests import cheapest, hiding, is_cheapest, is_hiding
from twoworlds.nets import Net, table_net

RING = Net({"a": ("x", "y"), "b": ("y", "x"), "c": ("y", "x"), "d": ("x", "a"), "e": ("a", "a")})


def tells_all(net, file):
    return all(net.is_told(file, name) for name in net.questions())


def plainly_hiding(net, known, asked, taken, levels):
    """A hiding by its rule, of lists of names and dicts from just the nodes to integers."""
    arcs = net.arcs()
    if len(set(taken)) < len(taken) or not set(taken) <= set(known) or not net.is_told(known, asked):
        return False
    if net.is_told([name for name in known if name not in taken], asked) or levels[arcs[asked][1]] != 0:
        return False
    for name in net.live():
        gap = abs(levels[arcs[name][0]] - levels[arcs[name][1]])
        if name != asked and gap > (1 if name in known else 0):
            return False
    return len(taken) == levels[arcs[asked][0]] + (asked in known)


class TestCheapest(unittest.TestCase):
    def test_drawn(self):
        rng = random.Random(50)
        for _ in range(250):
            net = drawn_net(rng, 4, 6)
            most = rng.choice((1, 3, 10 ** 15))
            prices = {name: rng.choice((0, rng.randint(0, most))) for name in rng.sample(
                net.questions(), len(net.questions()))}
            files = [file for file in subsets(net.questions()) if tells_all(net, file)]
            least = min(sum(prices[name] for name in file) for file in files)
            told = cheapest(net, prices)
            self.assertIs(type(told), tuple)
            price, file = told
            self.assertEqual(price, least)
            self.assertIn(file, files)
            self.assertEqual(sum(prices[name] for name in file), least)
            self.assertIs(is_cheapest(net, prices, tuple(file)), True)
            for thing in subsets(net.questions()):
                right = thing in files and sum(prices[name] for name in thing) == least
                rng.shuffle(thing)
                self.assertIs(is_cheapest(net, prices, thing), right)
                if thing:
                    self.assertIs(is_cheapest(net, prices, [*thing, thing[0]]), False)
                self.assertIs(is_cheapest(net, prices, [*thing, "zz"]), False)

    def test_examples(self):
        prices = {"e": 1, "d": 0, "c": 5, "b": 5, "a": 4}
        self.assertEqual(cheapest(prices=prices, net=RING)[0], 10)
        self.assertIn(cheapest(RING, prices)[1], (["a", "b", "e"], ["a", "c", "e"]))
        self.assertIs(is_cheapest(thing=["e", "c", "a"], prices=prices, net=RING), True)
        self.assertIs(is_cheapest(RING, prices, ["e", "c", "d", "a"]), True)
        self.assertIs(is_cheapest(RING, prices, ["e", "c", "b"]), False)
        self.assertEqual(cheapest(Net({"a": ("x", "y")}), {"a": 3}), (0, []))
        net = table_net(["a", "b"], ["x", "y"])
        self.assertEqual(cheapest(net, {name: 1 for name in net.questions()})[0], 4)

    def test_any_objects(self):
        net = Net({"a": ("x", "x"), "b": ("x", "y")})
        for thing in any_objects():
            right = isinstance(thing, (list, tuple)) and sorted(map(str, thing)) in (["a"], ["a", "b"])
            self.assertIs(is_cheapest(net, {"a": 1, "b": 0}, thing), right, thing)

    def test_all_least_files_have_as_many_arcs(self):
        rng = random.Random(501)
        for _ in range(40):
            net = drawn_net(rng, 4, 6)
            files = [file for file in subsets(net.questions()) if tells_all(net, file)]
            least = [file for file in files if not any(set(other) < set(file) for other in files)]
            self.assertEqual({len(file) for file in least},
                             {cheapest(net, {name: 1 for name in net.questions()})[0]})

    def test_bad_amounts(self):
        right = {"a": 1, "b": 2, "c": 3, "d": 0, "e": 10 ** 15}
        for work, rest in ((cheapest, ()), (is_cheapest, (["a", "b", "e"],))):
            for thing in any_objects():
                if not isinstance(thing, dict):
                    self.assertIsNone(caught(BadAmounts, work, RING, thing, *rest).name)
                if type(thing) is not int or thing < 0:
                    bad = {"zz": 1, "d": -1, "c": thing, "b": 0, "a": 0}
                    self.assertEqual(caught(BadAmounts, work, RING, bad, *rest).name, "c")
            for name in right:
                left = {other: right[other] for other in right if other != name}
                self.assertEqual(caught(BadAmounts, work, RING, {**left, "zz": 1}, *rest).name, name)
            self.assertEqual(caught(BadAmounts, work, RING, {}, *rest).name, "a")
            self.assertEqual(caught(BadAmounts, work, RING, {"c": 1}, *rest).name, "a")
            for name in ("zz", 5, None, ("a",), "x"):
                self.assertIsNone(caught(BadAmounts, work, RING, {name: 1, **right}, *rest).name)


class TestHidings(unittest.TestCase):
    def test_drawn(self):
        rng = random.Random(51)
        for _ in range(350):
            net = drawn_net(rng, 4, 7)
            known = drawn_names(rng, net.questions())
            for asked in net.questions():
                told = hiding(net, known, asked)
                if asked not in net.live():
                    self.assertIsNone(told)
                elif not net.is_told(known, asked):
                    self.assertEqual(told, ([], {}))
                    self.assertIs(type(told), tuple)
                    zeros = {node: 0 for node in net.nodes()}
                    self.assertIs(is_hiding(net, known, asked, ([], zeros)), False)
                else:
                    self.look(rng, net, known, asked, told)
                self.assertIs(is_hiding(net, known, asked, ([], {})), False)

    def look(self, rng, net, known, asked, told):
        self.assertIs(type(told), tuple)
        taken, levels = told
        self.assertEqual((type(taken), list(levels)), (list, net.nodes()))
        self.assertIs(is_hiding(net, known, asked, told), True)
        self.assertTrue(plainly_hiding(net, known, asked, taken, levels))
        for less in subsets(known):
            if len(less) < len(taken):
                self.assertTrue(net.is_told([name for name in known if name not in less], asked))
            if rng.random() < 0.3:
                rng.shuffle(less)
                self.assertIs(is_hiding(net, known, asked, [tuple(less), levels]),
                              plainly_hiding(net, known, asked, less, levels))
        for node in levels:
            for by in (-1, 1):
                bent = {**levels, node: levels[node] + by}
                self.assertIs(is_hiding(net, known, asked, (taken, bent)),
                              plainly_hiding(net, known, asked, taken, bent))
            left = {one: levels[one] for one in levels if one != node}
            for bent in (left, {**left, node: bool(levels[node])}, {**levels, "zz": 0}, {**left, node: None}):
                self.assertIs(is_hiding(net, known, asked, (taken, bent)), False)
        for bent in ([*taken, taken[0]], [*taken, "zz"], taken[1:], None, "".join(taken), {}):
            self.assertIs(is_hiding(net, known, asked, (bent, levels)), False)
        for bent in ((taken,), (taken, levels, 1), None, {"a": 1}, (levels, taken), taken):
            self.assertIs(is_hiding(net, known, asked, bent), False)

    def test_examples(self):
        self.assertIsNone(hiding(RING, ["d"], "d"))
        self.assertEqual(hiding(RING, [], "a"), ([], {}))
        self.assertEqual(hiding(asked="e", known=("e", "a"), net=RING)[0], ["e"])
        self.assertEqual(sorted(hiding(RING, ["b", "a", "c"], "a")[0])[0], "a")
        self.assertEqual(len(hiding(RING, ["b", "a", "c"], "a")[0]), 2)
        levels = {"x": 1, "y": 0, "a": -7}
        self.assertIs(is_hiding(thing=(["c"], levels), asked="a", known=["b", "c"], net=RING), True)
        self.assertIs(is_hiding(RING, ["b", "c", "a"], "a", (["a", "b"], levels)), True)
        self.assertIs(is_hiding(RING, ["b", "c", "a"], "a", (["c", "b"], levels)), False)
        line = Net({"a": ("x", "y"), "b": ("y", "z"), "c": ("z", "x")})
        self.assertIs(is_hiding(line, ["b", "c"], "a", (["b", "c"], {"x": 2, "y": 0, "z": 1})), True)
        self.assertIs(is_hiding(line, ["b", "c"], "a", (["b", "c"], {"x": 2, "y": 0, "z": 0})), False)
        self.assertIs(is_hiding(line, ["b", "c"], "a", (["b"], {"x": 1, "y": 0, "z": 0})), False)
        self.assertEqual(sorted(hiding(line, ["b", "c"], "a")[0]), ["b", "c"])

    def test_any_objects(self):
        for thing in any_objects():
            for asked in ("a", "d", "e"):
                self.assertIs(is_hiding(RING, ["b", "c", "d"], asked, thing), False)

    def test_order_of_errors(self):
        for work, rest in ((hiding, ()), (is_hiding, (3,))):
            for thing in any_objects():
                if not isinstance(thing, (list, tuple)):
                    self.assertEqual(caught(BadKnown, work, RING, thing, "zz", *rest).index, 0)
                if thing not in ("a", "b"):
                    self.assertEqual(caught(BadKnown, work, RING, ["a", thing], "zz", *rest).index, 1)
                    self.assertIs(caught(NoQuestion, work, RING, ["a"], thing, *rest).name, thing)


if __name__ == "__main__":
    unittest.main()
