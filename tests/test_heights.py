"""Promise [49]: sums of arcs, and heights."""

import random
import unittest

from tests.helpers import any_objects, caught, drawn_flow, drawn_names, drawn_net, small_flows
from twoworlds.errors import BadAmounts, BadAnswers, BadKnown, BadPlan
from twoworlds.heights import are_heights, heights, sum_apart, sum_found
from twoworlds.nets import Net

RING = Net({"a": ("x", "y"), "b": ("y", "x"), "c": ("y", "x"), "d": ("x", "a"), "e": ("a", "a")})


def drawn_amounts(rng, net, most=2):
    return {name: rng.randint(-most, most) for name in drawn_names(rng, net.questions())}


def sum_in(amounts, world):
    return sum(amounts[name] * world[name] for name in amounts)


def plainly_heights(net, known, amounts, thing):
    """Heights by their rule, of dicts from just the nodes to integers."""
    return all(thing[end] - thing[start] == amounts.get(name, 0) for name, (start, end) in net.arcs().items()
               if name in net.live() and name not in known)


class TestHeights(unittest.TestCase):
    def test_drawn(self):
        rng = random.Random(49)
        seen = {True: 0, False: 0}
        for _ in range(900):
            net = drawn_net(rng, 5, 8)
            known, amounts = drawn_names(rng, net.questions()), drawn_amounts(rng, net, rng.choice((1, 2)))
            told, pair = heights(net, known, amounts), sum_apart(net, known, amounts)
            seen[told is None] += 1
            self.assertEqual(told is None, pair is not None)
            if told is None:
                self.look_at_pair(net, known, amounts, pair)
            else:
                self.look_at_heights(rng, net, known, amounts, told)
        self.assertGreater(min(seen.values()), 100)

    def look_at_pair(self, net, known, amounts, pair):
        self.assertIs(type(pair), tuple)
        one, other = net.answers(pair[0]), net.answers(pair[1])
        self.assertEqual([one[name] for name in known], [other[name] for name in known])
        self.assertNotEqual(sum_in(amounts, one), sum_in(amounts, other))

    def look_at_heights(self, rng, net, known, amounts, told):
        self.assertEqual(list(told), net.nodes())
        self.assertIs(are_heights(net, known, amounts, told), True)
        self.assertTrue(plainly_heights(net, known, amounts, told))
        more = {node: told[node] + 7 for node in net.nodes()[::-1]}
        self.assertIs(are_heights(net, known, amounts, more), True)
        for _ in range(5):
            world = drawn_flow(rng, net)
            for given in (told, more):
                self.assertEqual(sum_found(net, known, amounts, given, world), sum_in(amounts, world))
        for node in net.nodes():
            bent = {**told, node: told[node] + rng.choice((-1, 1, 2))}
            self.assertIs(are_heights(net, known, amounts, bent), plainly_heights(net, known, amounts, bent))
            self.assertIs(are_heights(net, known, amounts, {**told, node: bool(told[node])}), False)
            self.assertIs(are_heights(net, known, amounts, {one: told[one] for one in told if one != node}), False)
        for bent in ({**told, "zz": 0}, None, list(told), [told], {**told, net.nodes()[0]: "0"}):
            self.assertIs(are_heights(net, known, amounts, bent), False)

    def test_told_just_if_small_worlds_agree(self):
        rng = random.Random(491)
        for _ in range(150):
            net = drawn_net(rng, 3, 5)
            worlds = small_flows(net, 2)
            for _ in range(5):
                known, amounts = drawn_names(rng, net.questions()), drawn_amounts(rng, net, 2)
                seen = {}
                right = all(seen.setdefault(tuple(world[name] for name in known), sum_in(amounts, world))
                            == sum_in(amounts, world) for world in worlds)
                self.assertEqual(heights(net, known, amounts) is not None, right)

    def test_examples(self):
        self.assertEqual(heights(amounts={}, known=(), net=RING), {"x": 0, "y": 0, "a": 0})
        told = heights(RING, ["c"], {"a": 3, "b": -3, "d": 8, "c": 4})
        self.assertEqual(told["y"] - told["x"], 3)
        self.assertIsNone(heights(RING, [], {"a": 3, "b": -3, "c": 4}))
        self.assertIsNone(heights(RING, [], {"e": 1}))
        self.assertIsNotNone(heights(RING, ["e"], {"e": 1}))
        self.assertIs(are_heights(thing={"x": 0, "y": 1, "a": 5}, amounts={"a": 1, "b": -1}, known=["c"], net=RING),
                      True)
        self.assertEqual(sum_found(answers={"c": 7}, given={"x": 0, "y": 1, "a": 5}, amounts={"a": 1, "b": -1},
                                   known=["c"], net=RING), 7)
        # Dead arcs count for nothing, whatever is said of them.
        self.assertEqual(sum_found(RING, ["d"], {"d": 5}, {"x": 0, "y": 0, "a": 1}, {"d": 9}), 0)
        told["x"] = None
        self.assertIsNotNone(sum_apart(net=RING, known=["a"], amounts={"c": 1}))
        self.assertIsNone(sum_apart(RING, ["a"], {"c": 1, "b": 1, "d": 9}))

    def test_any_objects(self):
        net = Net({"a": ("a", "a")})
        for thing in any_objects():
            self.assertIs(are_heights(net, [], {}, thing), thing == {"a": 1} and type(thing["a"]) is int, thing)
            self.assertIs(are_heights(net, [], {"a": 1}, thing), False)
            if thing != {"a": 1}:
                self.assertIs(caught(BadPlan, sum_found, net, [], {}, thing, 3).thing, thing)

    def test_order_of_errors(self):
        given = {"x": 0, "y": 0, "a": 0}
        for work, rest in [(heights, ()), (are_heights, (3,)), (sum_found, (3, 3)), (sum_apart, ())]:
            for thing in any_objects():
                if not isinstance(thing, (list, tuple)):
                    self.assertEqual(caught(BadKnown, work, RING, thing, 3, *rest).index, 0)
                self.assertEqual(caught(BadKnown, work, RING, ["c", "d", "c"], 3, *rest).index, 2)
                if not isinstance(thing, dict):
                    self.assertIsNone(caught(BadAmounts, work, RING, ["c"], thing, *rest).name)
                if type(thing) is not int:
                    self.assertEqual(caught(BadAmounts, work, RING, [], {"b": 1, "a": thing, "z": 1}, *rest).name, "a")
            for name in ("zz", "x", 5, None, ("a",), True):
                self.assertEqual(caught(BadAmounts, work, RING, [], {"b": 1, name: 1, "c": "1"}, *rest).name, name)
        bent = {"x": 0, "y": 1, "a": 0}
        self.assertIs(caught(BadPlan, sum_found, RING, ["c"], {}, bent, 3).thing, bent)
        for bad in ([], None, {}, {"c": True}, {"c": -1}, {"c": None}, {"b": 1}):
            self.assertIs(caught(BadAnswers, sum_found, RING, ["c"], {}, given, bad).thing, bad)
        bad = {"c": 1, "d": -1}
        self.assertIs(caught(BadAnswers, sum_found, RING, ["c", "d"], {}, given, bad).thing, bad)


if __name__ == "__main__":
    unittest.main()
