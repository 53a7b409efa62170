"""Promises [45] to [48], and the table of [54]."""

import random
import unittest

from tests.helpers import any_objects, caught, drawn_flow, drawn_names, drawn_net, plainly_told, small_flows, subsets
from twoworlds.engine import told_by
from twoworlds.errors import BadAnswers, BadArc, BadKnown, BadNames, BadPlan, BadWorld, NoQuestion
from twoworlds.nets import Net, table_net

# a and b make a ring, c lies beside b, d is dead, e is a loop.
RING = Net({"a": ("x", "y"), "b": ("y", "x"), "c": ("y", "x"), "d": ("x", "a"), "e": ("a", "a")})


class TestMaking(unittest.TestCase):
    def test_arcs_and_nodes(self):
        arcs = {"q": ["b", "a"], "a": ("a", "c"), "c": ("a", "a"), "z.9": ("c", "row.1")}
        net = Net(arcs)
        self.assertEqual(list(net.arcs().items()), [("q", ("b", "a")), ("a", ("a", "c")), ("c", ("a", "a")),
                                                    ("z.9", ("c", "row.1"))])
        self.assertTrue(all(type(arc) is tuple for arc in net.arcs().values()))
        self.assertEqual(net.nodes(), ["b", "a", "c", "row.1"])
        self.assertEqual(net.questions(), ["q", "a", "c", "z.9"])
        self.assertEqual(net.live(), ["c"])
        arcs["q"][0] = "a"
        arcs["n"] = ("a", "b")
        for told in (net.arcs(), net.nodes(), net.questions(), net.live(), net.home()):
            told.clear()
        self.assertEqual(net.arcs()["q"], ("b", "a"))
        self.assertEqual((net.questions(), net.live()), (["q", "a", "c", "z.9"], ["c"]))
        self.assertEqual(net.nodes(), ["b", "a", "c", "row.1"])
        self.assertEqual(Net(arcs={"a": ("a", "a")}).live(), ["a"])

    def test_equality(self):
        self.assertTrue(RING == Net({name: list(arc) for name, arc in RING.arcs().items()}))
        self.assertFalse(RING != Net(RING.arcs()))
        self.assertFalse(RING == Net(dict(list(RING.arcs().items())[::-1])))
        self.assertFalse(RING == Net({**RING.arcs(), "e": ("a", "x")}))
        self.assertFalse(RING == Net({**RING.arcs(), "f": ("a", "a")}))
        self.assertFalse(Net({"a": ("x", "y")}) == Net({"a": ("y", "x")}))
        self.assertFalse(Net({"a": ("x", "y")}) == Net({"b": ("x", "y")}))
        for thing in any_objects():
            self.assertFalse(RING == thing)
            self.assertTrue(RING != thing)

    def test_bad_arcs(self):
        for thing in any_objects():
            if not isinstance(thing, dict) or not thing:
                self.assertIsNone(caught(BadArc, Net, thing).name)
            if thing not in (("a", "b"), ["a", "a"]):
                self.assertEqual(caught(BadArc, Net, {"a": ("x", "y"), "b": thing, "c": 3}).name, "b")
        for bad in (("x", "A"), ("x", ""), ("", "x"), ("x", "y", "z"), ("x",), "xy", ("x", ["y"]), ("x", None),
                    (1, "x"), ("x", "y" * 41), {"x": "y"}, {"x", "y"}):
            self.assertEqual(caught(BadArc, Net, {"a": ("x", "y"), "b": bad}).name, "b")
        for name in (1, None, True, "", "A", "a" * 41, ("a",), "a b", "a_b"):
            self.assertEqual(caught(BadArc, Net, {"a": ("x", "y"), name: ("x", "y"), "c": 3}).name, name)


class TestWorlds(unittest.TestCase):
    def test_answers(self):
        world = {"e": 7, "c": 2, "d": 0, "b": 3, "a": 5}
        self.assertEqual(list(RING.answers(world=world).items()), [("a", 5), ("b", 3), ("c", 2), ("d", 0), ("e", 7)])
        self.assertEqual(list(world), ["e", "c", "d", "b", "a"])
        self.assertEqual(list(RING.answers(RING.home())), ["a", "b", "c", "d", "e"])
        RING.answers(RING.home())["a"] = 9
        large = 10 ** 15
        self.assertEqual(RING.answers({"a": large, "b": 1, "c": large - 1, "d": 0, "e": large})["c"], large - 1)
        right = {"a": 1, "b": 1, "c": 0, "d": 0, "e": 1}
        for thing in [*any_objects(), {**right, "a": 2}, {**right, "d": 1}, {**right, "a": True}, {**right, "c": False},
                      {**right, "b": 2, "c": -1}, {**right, "e": -1}, {**right, "f": 0}, {**right, "e": None},
                      {"a": 1, "b": 1, "c": 0, "d": 0}, list(right), {**right, "e": "1"}, {**right, 1: 1}]:
            self.assertIs(caught(BadWorld, RING.answers, thing).thing, thing)

    def test_small(self):
        rng = random.Random(45)
        for _ in range(40):
            net = drawn_net(rng, 3, 4)
            worlds = small_flows(net, 2)
            for _ in range(30):
                drawn = {name: rng.randint(0, 2) for name in net.questions()}
                self.assertEqual(caught(BadWorld, net.answers, drawn) is None, drawn in worlds)
            for world in worlds:
                self.assertEqual(net.answers(world), world)


class TestTables(unittest.TestCase):
    def test_small(self):
        self.assertEqual(list(table_net(["r"], ["c"]).arcs().items()), [
            ("all", ("sums", "all")), ("r", ("all", "row.r")), ("r.c", ("row.r", "col.c")), ("c", ("col.c", "sums"))])
        net = table_net(columns=("y", "x"), rows=("b", "a", "9"))
        self.assertEqual(list(net.arcs().items()), [
            ("all", ("sums", "all")), ("b", ("all", "row.b")), ("a", ("all", "row.a")), ("9", ("all", "row.9")),
            ("b.y", ("row.b", "col.y")), ("b.x", ("row.b", "col.x")), ("a.y", ("row.a", "col.y")),
            ("a.x", ("row.a", "col.x")), ("9.y", ("row.9", "col.y")), ("9.x", ("row.9", "col.x")),
            ("y", ("col.y", "sums")), ("x", ("col.x", "sums"))])
        self.assertEqual(net.live(), net.questions())
        self.assertEqual(net.nodes(), ["sums", "all", "row.b", "row.a", "row.9", "col.y", "col.x"])
        self.assertTrue(isinstance(net, Net))
        for rows in range(1, 4):
            for columns in range(1, 4):
                net = table_net([f"r{place}" for place in range(rows)], [f"c{place}" for place in range(columns)])
                self.assertEqual(len(net.arcs()), 1 + rows + columns + rows * columns)

    def test_bad_names(self):
        good = ["a", "b", "zz", "abc"]
        for thing in any_objects():
            if not isinstance(thing, (list, tuple)) or not thing:
                self.assertEqual(caught(BadNames, table_net, thing, thing).index, 0)
                self.assertEqual(caught(BadNames, table_net, ["r", "s"], thing).index, 2)
            if not (isinstance(thing, str) and thing in good):
                self.assertEqual(caught(BadNames, table_net, ["r", thing, 3], []).index, 1)
                self.assertEqual(caught(BadNames, table_net, ["r", "s"], ["x", "y", thing, 3]).index, 4)
        for name in ("all", "sums", "r.s", ".", "a.", "r", "A", "a b", ""):
            self.assertEqual(caught(BadNames, table_net, ["r", name], ["x"]).index, 1, name)
            self.assertEqual(caught(BadNames, table_net, ["r", "s"], ["x", name]).index, 3)
        self.assertEqual(caught(BadNames, table_net, ["r"], ["x", "x"]).index, 2)
        self.assertEqual(caught(BadNames, table_net, "rs", ["x"]).index, 0)
        self.assertEqual(caught(BadNames, table_net, ["r"], "xy").index, 1)
        self.assertEqual(caught(BadNames, table_net, ["r", "r"], "xy").index, 1)

    def test_written_table(self):
        net = table_net(["a", "b"], ["x", "y"])
        sums = ["all", "a", "b", "x", "y"]
        self.assertEqual(told_by(net, [*sums, "a.x"]), net.questions())
        self.assertEqual(told_by(net, sums), ["all", "a", "b", "x", "y"])
        self.assertEqual(told_by(net, ["a", "b"]), ["all", "a", "b"])


class TestTold(unittest.TestCase):
    def test_live(self):
        rng = random.Random(47)
        for _ in range(300):
            net = drawn_net(rng, 5, 8)
            arcs = net.arcs()
            right = []
            for name in arcs:
                found = {arcs[name][1]}
                for _ in arcs:
                    found |= {end for start, end in arcs.values() if start in found}
                if arcs[name][0] in found:
                    right.append(name)
            self.assertEqual(net.live(), right)

    def test_told_by_small_worlds(self):
        rng = random.Random(471)
        for _ in range(80):
            net = drawn_net(rng, 4, 5)
            worlds = small_flows(net, 2)
            for known in subsets(net.questions()):
                for asked in net.questions():
                    # Worlds that part do so in small ones, too: one ring more or less.
                    self.assertIs(net.is_told(known, asked), plainly_told(worlds, known, asked), (net.arcs(), known))

    def test_examples(self):
        self.assertEqual(RING.plan([], "d"), [])
        self.assertEqual(RING.plan(["e", "d"], "d"), [])
        self.assertEqual(RING.plan(["a", "e"], "e"), [])
        self.assertIsNone(RING.plan(["a"], "b"))
        self.assertIsNone(RING.plan(["a", "b", "c"], "e"))
        self.assertIs(RING.is_told(["b", "c"], "a"), True)
        self.assertIs(RING.is_told(asked="b", known=("c",)), False)
        self.assertIs(RING.is_plan(["b", "c"], "a", ["x"]), True)
        self.assertIs(RING.is_plan(["b", "c"], "a", ("y", "a")), True)
        self.assertIs(RING.is_plan(["b", "c"], "a", ["x", "y"]), False)
        self.assertIs(RING.is_plan(["b"], "a", ["x"]), False)

    def test_plans_and_pairs(self):
        rng = random.Random(48)
        for _ in range(400):
            net = drawn_net(rng, 5, 8)
            known, asked = drawn_names(rng, net.questions()), rng.choice(net.questions())
            plan, pair = net.plan(known, asked), net.apart(known, asked)
            self.assertEqual(plan is None, pair is not None)
            self.assertIs(net.is_told(known, asked), plan is not None)
            self.assertEqual(plan == [], asked in known or asked not in net.live())
            if plan is None:
                self.look_at_pair(net, known, asked, pair)
            else:
                self.look_at_plan(rng, net, known, asked, plan)
            for _ in range(12):
                side = rng.sample(net.nodes(), rng.randint(0, len(net.nodes())))
                self.look_at_side(rng, net, known, asked, side)

    def look_at_pair(self, net, known, asked, pair):
        self.assertIs(type(pair), tuple)
        one, other = net.answers(pair[0]), net.answers(pair[1])
        self.assertEqual([one[name] for name in known], [other[name] for name in known])
        self.assertNotEqual(one[asked], other[asked])
        self.assertEqual([list(pair[0]), list(pair[1])], [net.questions()] * 2)
        self.assertIs(net.are_apart(known, asked, pair), True)
        self.assertIs(net.are_apart(known, asked, [dict(list(part.items())[::-1]) for part in pair]), True)
        for bent in (pair[:1], (*pair, pair[0]), (pair[0], pair[0]), (pair[0], None), ([], pair[1]),
                     (pair[0], {**pair[1], "zz": 0}), (pair[0], {**pair[1], asked: True}),
                     ({**pair[0], asked: -1}, pair[1])):
            self.assertIs(net.are_apart(known, asked, bent), False)

    def look_at_plan(self, rng, net, known, asked, plan):
        self.assertIs(type(plan), list)
        self.assertIs(net.is_plan(known, asked, plan), True)
        self.assertIs(net.is_plan(known, asked, tuple(plan)), True)
        for bent in ([*plan, "zz"], [*plan, plan[0] if plan else net.nodes()[0]], None, {}, "".join(plan), [plan]):
            self.assertIs(net.is_plan(known, asked, bent), False, bent)
        self.look_at_answers(rng, net, known, asked, plan)

    def look_at_answers(self, rng, net, known, asked, plan):
        for _ in range(4):
            world = drawn_flow(rng, net)
            self.assertEqual(net.found(known, asked, plan, world), world[asked])
            self.assertEqual(net.found(known, asked, plan, {name: world[name] for name in known}), world[asked])

    def look_at_side(self, rng, net, known, asked, side):
        arcs = net.arcs()
        right = asked not in known and asked in net.live() and all(
            len({start in side, end in side}) == (2 if name == asked else 1) for name, (start, end) in arcs.items()
            if name in net.live() and (name == asked or name not in known))
        if asked in known or asked not in net.live():
            right = not side
        self.assertIs(net.is_plan(known, asked, side), right)
        if right:
            self.look_at_answers(rng, net, known, asked, side)

    def test_any_objects(self):
        net = Net({"a": ("a", "b"), "b": ("b", "a"), "c": ("c", "b")})
        for thing in any_objects():
            right = isinstance(thing, (list, tuple)) and list(thing) in (["a"], ["b"])
            self.assertIs(net.is_plan(["a"], "b", thing), right, thing)
            self.assertIs(net.is_plan(["a"], "c", thing), thing in ([], ()), thing)
            self.assertIs(net.are_apart([], "a", thing), False)
            if not right:
                self.assertIs(caught(BadPlan, net.found, ["a"], "b", thing, 3).thing, thing)

    def test_found(self):
        known = ["c", "b", "d"]
        answers = {"b": 3, "c": 4, "d": 0}
        self.assertEqual(RING.found(known=known, asked="a", plan=["x"], answers=answers), 7)
        self.assertEqual(RING.found(known, "a", ("y",), {**answers, "a": None, "zz": 3}), 7)
        self.assertEqual(RING.found(["a", "c"], "b", ["x"], {"a": 2, "c": 5}), -3)
        self.assertEqual(RING.found(known, "d", [], {**answers, "d": 9}), 9)
        self.assertEqual(RING.found(known[:2], "d", [], answers), 0)
        # What is said of a dead arc counts for nothing.
        self.assertEqual(RING.found(known, "a", ["x"], {**answers, "d": 9}), 7)
        for bad in ([], None, {}, {"b": 3, "c": 4}, {**answers, "b": -1}, {**answers, "c": True}, {**answers, "d": -1},
                    {**answers, "b": None}, {**answers, "b": "3"}, {**answers, "d": False}):
            for asked, plan in (("a", ["x"]), ("b", []), ("d", [])):
                self.assertIs(caught(BadAnswers, RING.found, known, asked, plan, bad).thing, bad)
        bad = {"b": 3, "c": 4, "d": True}
        self.assertIs(caught(BadAnswers, RING.found, ["d"], "d", [], bad).thing, bad)

    def test_order_of_errors(self):
        for work, rest in [(RING.is_told, ()), (RING.plan, ()), (RING.is_plan, (3,)), (RING.found, (3, 3)),
                           (RING.apart, ()), (RING.are_apart, (3,))]:
            for thing in any_objects():
                if not isinstance(thing, (list, tuple)):
                    self.assertEqual(caught(BadKnown, work, thing, "zz", *rest).index, 0)
                self.assertEqual(caught(BadKnown, work, ["c", "d", thing if thing not in ("a", "b") else "c"], "zz",
                                        *rest).index, 2)
                if thing not in ("a", "b"):
                    self.assertIs(caught(NoQuestion, work, ["c"], thing, *rest).name, thing)
            self.assertEqual(caught(BadKnown, work, ["a", "x"], "zz", *rest).index, 1)


if __name__ == "__main__":
    unittest.main()
