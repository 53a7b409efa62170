"""Promises [52] and [53], and the table of [54] at hand."""

import random
import unittest
from itertools import product

from tests.helpers import any_objects, caught, drawn_flow, drawn_names, drawn_net, subsets
from twoworlds.errors import BadAnswers, BadKnown, BadWorld, NoQuestion
from twoworlds.floors import bound_of, least_at, most_at
from twoworlds.nets import Net, table_net

RING = Net({"a": ("x", "y"), "b": ("y", "x"), "c": ("y", "x"), "d": ("x", "a"), "e": ("a", "a")})
AT_HAND = {"a": 5, "b": 3, "c": 2, "d": 0, "e": 4}


def plainly_bound(net, known, answers, asked, side, is_floor):
    """The bound of a side by its rule, of lists of nodes."""
    arcs = net.arcs()
    if len(set(side)) < len(side) or arcs[asked][0] not in side or arcs[asked][1] in side:
        return None
    bound = 0
    for name in net.live():
        leads_out = arcs[name][0] in side and arcs[name][1] not in side
        leads_in = arcs[name][1] in side and arcs[name][0] not in side
        if name != asked and name in known:
            bound += answers[name] * (leads_in - leads_out)
        elif name != asked and (leads_out if is_floor else leads_in):
            return None
    return bound


def all_worlds(net, known, world, most):
    """All worlds with the answers of a world to known, and others of at most so much."""
    arcs, out = net.arcs(), []
    for row in product(*[[world[name]] if name in known else range(most + 1) for name in arcs]):
        drawn = dict(zip(arcs, row))
        if all(sum(drawn[name] * ((arcs[name][1] == node) - (arcs[name][0] == node)) for name in arcs) == 0
               for node in net.nodes()):
            out.append(drawn)
    return out


class TestAtHand(unittest.TestCase):
    def test_against_plain_looks(self):
        rng = random.Random(52)
        for _ in range(250):
            net = drawn_net(rng, 4, 5)
            world = drawn_flow(rng, net, 1)
            known = drawn_names(rng, net.questions())
            if max(world.values()) > 3:
                continue
            # Where there is a greatest answer, it is at most the sum of the known ones, and the others need no more.
            most = 8 if len(net.questions()) - len(known) <= 3 else 4
            answers = all_worlds(net, known, world, most)
            for asked in net.questions():
                least, greatest = least_at(net, known, world, asked), most_at(net, known, world, asked)
                self.assertEqual(least[0], min(row[asked] for row in answers))
                if greatest[0] is None:
                    self.assertGreater(max(row[asked] for row in answers), world[asked])
                elif greatest[0] <= most:
                    self.assertEqual(greatest[0], max(row[asked] for row in answers))
                self.look(net, known, world, asked)

    def test_drawn(self):
        rng = random.Random(53)
        for _ in range(500):
            net = drawn_net(rng, 5, 8)
            world = drawn_flow(rng, net, rng.choice((1, 4, 10 ** 13)))
            self.look(net, drawn_names(rng, net.questions()), world, rng.choice(net.questions()))

    def look(self, net, known, world, asked):
        answers = {name: world[name] for name in known}
        sides = [side for side in subsets(net.nodes())]
        for is_floor, told in ((True, least_at(net, known, world, asked)), (False, most_at(net, known, world, asked))):
            self.assertIs(type(told), tuple)
            number, other, side = told
            self.assertEqual(list(other), net.questions())
            self.assertEqual(net.answers(other), other)
            self.assertEqual([other[name] for name in known], [world[name] for name in known])
            bounds = [bound_of(net, known, answers, asked, one, is_floor) for one in sides]
            self.assertEqual(bounds, [plainly_bound(net, known, answers, asked, one, is_floor) for one in sides])
            bounds = [bound for bound in bounds if bound is not None]
            if asked in known:
                self.assertEqual((number, other[asked], side), (world[asked], world[asked], None))
            elif number is None:
                self.assertFalse(is_floor)
                self.look_at_ring(net, known, world, asked, other, side)
                self.assertEqual(bounds, [])
            else:
                self.assertEqual(other[asked], number)
                self.assertEqual(number, max([0, *bounds]) if is_floor else min(bounds))
                if is_floor and number == 0:
                    self.assertIsNone(side)
                else:
                    self.assertIs(type(side), list)
                    self.assertEqual(bound_of(net, known, answers, asked, side, is_floor), number)
                    self.assertEqual(bound_of(net, known, answers, asked, tuple(side[::-1]), is_floor), number)
                    for bent in ([*side, side[0]], [*side, "zz"], [*side, net.arcs()[asked][1]], side[0], {}, None):
                        self.assertIsNone(bound_of(net, known, answers, asked, bent, is_floor))
            if net.is_told(known, asked):
                self.assertEqual(number, world[asked])

    def look_at_ring(self, net, known, world, asked, other, ring):
        arcs = net.arcs()
        self.assertIs(type(ring), list)
        self.assertEqual(ring[0], asked)
        self.assertEqual(len(set(ring)), len(ring))
        self.assertFalse(set(ring) & set(known))
        for place, name in enumerate(ring):
            self.assertEqual(arcs[name][0], arcs[ring[place - 1]][1])
        self.assertGreater(other[asked], world[asked])

    def test_examples(self):
        self.assertEqual(least_at(RING, ["a"], AT_HAND, "b")[0], 0)
        self.assertIsNone(least_at(RING, ["a"], AT_HAND, "b")[2])
        self.assertEqual(most_at(asked="b", world=AT_HAND, known=("a",), net=RING)[:2],
                         (5, {"a": 5, "b": 5, "c": 0, "d": 0, "e": 4}))
        number, other, ring = most_at(RING, ["c"], AT_HAND, "a")
        self.assertEqual((number, ring), (None, ["a", "b"]))
        self.assertEqual((other["c"], other["a"] - other["b"]), (2, 2))
        number, other, ring = most_at(RING, ["c"], AT_HAND, "e")
        self.assertEqual((number, ring, other["e"] > 4), (None, ["e"], True))
        self.assertEqual(least_at(RING, ["c"], AT_HAND, "e")[0], 0)
        self.assertEqual(least_at(RING, ["c"], AT_HAND, "a"), (2, {"a": 2, "b": 0, "c": 2, "d": 0, "e": 4}, ["x"]))
        self.assertEqual(least_at(asked="c", world=AT_HAND, known=["c"], net=RING), (2, AT_HAND, None))
        self.assertEqual(most_at(RING, ["c"], AT_HAND, "c"), (2, AT_HAND, None))
        number, other, side = most_at(RING, [], AT_HAND, "d")
        self.assertEqual((number, other), (0, AT_HAND))
        self.assertEqual(bound_of(RING, [], {}, "d", side, False), 0)
        self.assertIsNone(least_at(RING, [], AT_HAND, "d")[2])
        # A floor may be told of a known arc, too; a loop has none.
        self.assertEqual(bound_of(RING, ["a", "b", "c"], AT_HAND, "a", ["x"], True), 5)
        self.assertIsNone(bound_of(RING, ["e"], AT_HAND, "e", ["a"], True))
        self.assertEqual(bound_of(is_floor=False, side=["y"], asked="b", answers={"a": 7, "c": 9}, known=["a", "c"],
                                  net=RING), -2)
        self.assertEqual(bound_of(RING, ["a"], {"a": 7}, "b", ["y"], False), 7)
        self.assertIsNone(bound_of(RING, ["a"], {"a": 7}, "b", ["y"], True))
        self.assertEqual(bound_of(RING, ["a"], {"a": 7}, "b", ["y", "a"], False), 7)

    def test_written_table(self):
        net = table_net(["a", "b"], ["x", "y"])
        sums = ["all", "a", "b", "x", "y"]
        world = {"all": 7, "a": 0, "b": 7, "a.x": 0, "a.y": 0, "b.x": 3, "b.y": 4, "x": 3, "y": 4}
        for cell in ("a.x", "a.y", "b.x", "b.y"):
            self.assertEqual(least_at(net, sums, world, cell)[0], world[cell])
            self.assertEqual(most_at(net, sums, world, cell)[0], world[cell])
        world = {"all": 7, "a": 2, "b": 5, "a.x": 1, "a.y": 1, "b.x": 2, "b.y": 3, "x": 3, "y": 4}
        self.assertEqual((least_at(net, sums, world, "a.x")[0], most_at(net, sums, world, "a.x")[0]), (0, 2))
        self.assertEqual((least_at(net, sums, world, "b.y")[0], most_at(net, sums, world, "b.y")[0]), (2, 4))

    def test_any_sides(self):
        net = Net({"a": ("a", "b"), "b": ("b", "a")})
        for thing in any_objects():
            for is_floor in (True, False):
                told = bound_of(net, ["b"], {"b": 5}, "a", thing, is_floor)
                right = isinstance(thing, (list, tuple)) and list(thing) == ["a"]
                self.assertEqual(told, 5 if right else None, thing)

    def test_order_of_errors(self):
        for thing in any_objects():
            bad_known = ["a", thing if thing not in ("a", "b") else "zz"]
            for work in (least_at, most_at):
                self.assertEqual(caught(BadKnown, work, RING, bad_known, 3, "zz").index, 1)
                self.assertIs(caught(BadWorld, work, RING, ["a"], thing, "zz").thing, thing)
                if thing not in ("a", "b"):
                    self.assertIs(caught(NoQuestion, work, RING, ["a"], AT_HAND, thing).name, thing)
            self.assertEqual(caught(BadKnown, bound_of, RING, bad_known, 3, "zz", 3, True).index, 1)
            if not isinstance(thing, dict):
                self.assertIs(caught(BadAnswers, bound_of, RING, ["a"], thing, "zz", 3, True).thing, thing)
            if thing not in ("a", "b"):
                self.assertIs(caught(NoQuestion, bound_of, RING, ["a"], AT_HAND, thing, 3, True).name, thing)
        for work in (least_at, most_at):
            for bad in ({**AT_HAND, "a": 6}, {**AT_HAND, "e": True}, {**AT_HAND, "z": 0}):
                self.assertIs(caught(BadWorld, work, RING, ["a"], bad, "zz").thing, bad)
        for bad in ({}, {"a": True, "b": 1}, {"a": -1, "b": 1}, {"a": 1}, {"a": None, "b": 1}):
            self.assertIs(caught(BadAnswers, bound_of, RING, ["b", "a"], bad, "zz", 3, False).thing, bad)


if __name__ == "__main__":
    unittest.main()
