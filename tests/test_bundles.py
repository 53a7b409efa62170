"""Promise [104]."""

import random
import unittest

from tests.helpers import any_objects, caught, drawn_bundles, drawn_field, drawn_mix, drawn_names, some_worlds
from twoworlds.bundles import Bundles
from twoworlds.errors import BadAnswers, BadBundle, BadKnown, BadPlan, BadWorld, NoQuestion
from twoworlds.mixes import Mix
from twoworlds.tables import Table

TABLE = Table([{"a": x, "b": y, "c": z, "s": x ^ y} for x in (0, 1) for y in (0, 1) for z in (0, 1)])
NAMES = {"two": ["b", "a"], "more": ("a", "s", "c"), "one": ["c"], "same": ["a", "b"]}
BUNDLES = Bundles(TABLE, NAMES)


class TestBundles(unittest.TestCase):
    def test_making(self):
        names = {"two": ["b", "a"], "more": ("a", "s")}
        bundles = Bundles(bundles=names, field=TABLE)
        names["two"].append("c")
        names["x"] = ["a"]
        bundles.bundles()["two"].clear()
        bundles.bundles().clear()
        bundles.questions().clear()
        self.assertEqual(bundles.questions(), ["two", "more"])
        self.assertEqual(list(bundles.bundles().items()), [("two", ["b", "a"]), ("more", ["a", "s"])])
        self.assertIn(bundles.home(), TABLE.rows())
        told = bundles.answers(world={"a": 1, "s": 1, "c": 1, "b": 0})
        self.assertEqual(list(told.items()), [("two", (0, 1)), ("more", (1, 1))])
        self.assertIs(type(told["two"]), tuple)
        for thing in [*any_objects(), {"two": (0, 1), "more": (1, 1)}, {"a": 1, "s": 0, "c": 1, "b": 0}]:
            self.assertIs(caught(BadWorld, bundles.answers, thing).thing, thing)

    def test_bad_bundles(self):
        for thing in any_objects():
            if not isinstance(thing, dict) or not thing:
                self.assertIsNone(caught(BadBundle, Bundles, TABLE, thing).name)
            if thing not in (["a"], ("a", "b")):
                self.assertEqual(caught(BadBundle, Bundles, TABLE, {"x": ["a"], "y": thing, "z": 3}).name, "y")
        for bad in ([], (), "a", "ab", ["a", "a"], ["a", "zz"], ["a", 1], {"a": 1}, [["a"]], ["a", "b", "a"]):
            self.assertEqual(caught(BadBundle, Bundles, TABLE, {"x": ["a"], "y": bad, "z": 3}).name, "y")
        for name in (1, None, True, "", "A", "a" * 41, ("a",), "a b"):
            self.assertEqual(caught(BadBundle, Bundles, TABLE, {"x": ["a"], name: ["a"], "z": 3}).name, name)

    def test_equality(self):
        self.assertTrue(BUNDLES == Bundles(Table(TABLE.rows()), {name: tuple(NAMES[name]) for name in NAMES}))
        self.assertFalse(BUNDLES != Bundles(TABLE, dict(NAMES)))
        self.assertFalse(BUNDLES == Bundles(TABLE, dict(list(NAMES.items())[::-1])))
        self.assertFalse(BUNDLES == Bundles(TABLE, {**NAMES, "two": ["a", "b"]}))
        self.assertFalse(BUNDLES == Bundles(Table(TABLE.rows()[::-1]), NAMES))
        self.assertFalse(BUNDLES == Bundles(TABLE, {"two": ["b", "a"]}))
        self.assertTrue(Bundles(Mix({"t": TABLE}), {"x": ["t.a"]}) == Bundles(Mix({"t": TABLE}), {"x": ["t.a"]}))
        for thing in [*any_objects(), TABLE, NAMES]:
            self.assertFalse(BUNDLES == thing)

    def test_plans(self):
        plan = BUNDLES.plan(["same", "one"], "more")
        self.assertIs(type(plan), list)
        self.assertEqual(plan, [TABLE.plan(["a", "b", "c"], name) for name in ("a", "s", "c")])
        self.assertEqual(BUNDLES.plan(["one", "two", "same"], "more"), [
            TABLE.plan(["c", "b", "a"], name) for name in ("a", "s", "c")])
        self.assertIsNone(BUNDLES.plan(["same"], "more"))
        known = ["same", "one"]
        self.assertIs(BUNDLES.is_plan(thing=tuple(plan), asked="more", known=known), True)
        for bent in (plan[:2], plan + plan[:1], plan[::-1], [plan[0], plan[2], plan[1]], [plan[0], None, plan[2]], plan[0],
                     {0: plan[0], 1: plan[1], 2: plan[2]}, [], None, [{**plan[0], (0, 0, 0): 1}, *plan[1:]]):
            self.assertIs(BUNDLES.is_plan(known, "more", bent), False)
        for thing in any_objects():
            self.assertIs(BUNDLES.is_plan(known, "more", thing), False)
            self.assertIs(BUNDLES.is_plan(known, "more", [thing, *plan[1:]]), False)
            self.assertIs(caught(BadPlan, BUNDLES.found, known, "more", thing, 3).thing, thing)
            self.assertIs(BUNDLES.are_apart([], "one", thing), False)

    def test_found(self):
        known = ["same", "one", "two"]
        plan = BUNDLES.plan(known, "more")
        good = {"two": (1, 0), "same": [0, 1], "one": (1,), "more": None}
        self.assertEqual(BUNDLES.found(answers=good, plan=plan, asked="more", known=known), (0, 1, 1))
        for bad in ({"two": (1, 0), "same": [0, 1]}, {}, None, [], {**good, "two": (1,)}, {**good, "two": (1, 0, 0)},
                    {**good, "two": 1}, {**good, "two": "10"}, {**good, "two": None}, {**good, "two": {0: 1, 1: 0}},
                    {**good, "two": (0, 1)}, {**good, "two": (True, 0)}, {**good, "one": (5,)}, {**good, "one": ([],)},
                    {**good, "one": (True,)}, {**good, "one": ()}, {**good, "one": [[1]]}, {**good, "one": 1}):
            self.assertIs(caught(BadAnswers, BUNDLES.found, known, "more", plan, bad).thing, bad)
        over = Bundles(Mix({"t": TABLE, "u": TABLE}), {"x": ["t.a", "u.a"], "y": ["t.b", "u.a"], "z": ["t.s", "u.a"]})
        plan = over.plan(["x", "y"], "z")
        self.assertEqual(over.found(["x", "y"], "z", plan, {"x": (1, 0), "y": (1, 0)}), (0, 0))
        for bad in ({"x": (1, 0), "y": (1, 1)}, {"x": (2, 0), "y": (1, 0)}, {"x": (1, 7), "y": (1, 7)}):
            self.assertIs(caught(BadAnswers, over.found, ["x", "y"], "z", plan, bad).thing, bad)

    def test_order_of_errors(self):
        for work, rest in [(BUNDLES.is_told, ()), (BUNDLES.plan, ()), (BUNDLES.is_plan, (3,)), (BUNDLES.found, (3, 3)),
                           (BUNDLES.apart, ()), (BUNDLES.are_apart, (3,))]:
            for thing in any_objects():
                if not isinstance(thing, (list, tuple)):
                    self.assertEqual(caught(BadKnown, work, thing, "zz", *rest).index, 0)
                self.assertEqual(caught(BadKnown, work, ["two", thing], "zz", *rest).index, 1)
                self.assertIs(caught(NoQuestion, work, ["one"], thing, *rest).name, thing)
            self.assertEqual(caught(BadKnown, work, ["two", "one", "two"], "zz", *rest).index, 2)
            self.assertEqual(caught(NoQuestion, work, ["two"], "a", *rest).name, "a")

    def test_told_by_the_questions_in_them(self):
        rng = random.Random(104)
        told = 0
        for _ in range(200):
            field = drawn_field(rng, 1) if rng.random() < 0.6 else drawn_mix(rng, 1)
            bundles = drawn_bundles(rng, field)
            names = bundles.bundles()
            known, asked = drawn_names(rng, list(names)), rng.choice(list(names))
            meant = list(dict.fromkeys(name for one in known for name in names[one]))
            right = all(field.is_told(meant, name) for name in names[asked])
            told += right
            self.assertIs(bundles.is_told(known, asked), right)
            plan, pair = bundles.plan(known, asked), bundles.apart(known, asked)
            self.assertEqual((plan is not None, pair is None), (right, right))
            if right:
                self.assertTrue(all(field.is_plan(meant, name, one) for name, one in zip(names[asked], plan)))
                self.assertEqual(len(plan), len(names[asked]))
            else:
                self.assertTrue(any(field.are_apart(meant, name, pair) for name in names[asked]))
            for world in some_worlds(rng, bundles, 3):
                answers = field.answers(world)
                self.assertEqual(bundles.answers(world), {one: tuple(answers[name] for name in names[one]) for one in names})
        self.assertTrue(40 < told < 160, told)


if __name__ == "__main__":
    unittest.main()
