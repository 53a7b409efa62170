"""Promise [26], and [10] to [13] of views."""

import random
import unittest

from tests.helpers import any_objects, caught, drawn_names, drawn_sums, drawn_table, drawn_world
from twoworlds.errors import BadAnswers, BadKnown, BadPlan, BadView, BadWorld, NoQuestion
from twoworlds.sums import Sums
from twoworlds.tables import Table
from twoworlds.views import View

TABLE = Table([{"a": x, "b": y, "s": x ^ y} for x in (0, 1) for y in (0, 1)])
NAMES = {"t": "s", "one": "a", "other": "b", "again": "a"}


def drawn_view(rng, field):
    names = {f"v{place}": rng.choice(field.questions()) for place in range(rng.randint(1, 6))}
    return View(field, names), names


class TestViews(unittest.TestCase):
    def test_names(self):
        names = dict(NAMES)
        view = View(names=names, field=TABLE)
        self.assertEqual(view.questions(), ["t", "one", "other", "again"])
        self.assertEqual(list(view.names().items()), list(NAMES.items()))
        names["t"] = "a"
        view.names()["t"] = "a"
        view.questions().clear()
        self.assertEqual(view.names(), NAMES)
        self.assertIn(view.home(), TABLE.rows())
        told = view.answers(world={"s": 1, "a": 1, "b": 0})
        self.assertEqual(list(told.items()), [("t", 1), ("one", 1), ("other", 0), ("again", 1)])
        self.assertEqual(View(TABLE, {"x.y": "a", "z" * 40: "a"}).questions(), ["x.y", "z" * 40])

    def test_bad_views(self):
        for thing in any_objects():
            if not isinstance(thing, dict) or not thing:
                self.assertIsNone(caught(BadView, View, TABLE, thing).name)
            if thing not in ("a", "b"):
                self.assertEqual(caught(BadView, View, TABLE, {"x": "a", "y": thing, "z": 5}).name, "y")
        for name in (1, None, True, "", "A", "a" * 41, ("a",), "a b", "a\n"):
            self.assertEqual(caught(BadView, View, TABLE, {"x": "a", name: "a", "z": 5}).name, name)
        bad = "".join(["B", "ad"])
        self.assertIs(caught(BadView, View, TABLE, {bad: "a"}).name, bad)

    def test_bad_worlds(self):
        view = View(TABLE, NAMES)
        for thing in any_objects():
            self.assertIs(caught(BadWorld, view.answers, thing).thing, thing)
        for thing in ({"t": 0, "one": 0, "other": 0, "again": 0}, {"a": 0, "b": 0, "s": False}):
            self.assertIs(caught(BadWorld, view.answers, thing).thing, thing)

    def test_equality(self):
        view = View(TABLE, NAMES)
        self.assertTrue(view == View(Table(TABLE.rows()), dict(NAMES)))
        self.assertFalse(view != View(Table(TABLE.rows()), dict(NAMES)))
        self.assertFalse(view == View(TABLE, dict(list(NAMES.items())[::-1])))
        self.assertFalse(view == View(TABLE, {**NAMES, "again": "b"}))
        self.assertFalse(view == View(Table(TABLE.rows()[:2]), NAMES))
        self.assertFalse(view == View(TABLE, {"t": "s"}))
        self.assertFalse(View(TABLE, {"a": "a"}) == View(View(TABLE, {"a": "a"}), {"a": "a"}))
        self.assertTrue(View(view, {"a": "t"}) == View(View(TABLE, NAMES), {"a": "t"}))
        for thing in [*any_objects(), TABLE, NAMES]:
            self.assertFalse(view == thing)

    def test_drawn_tables(self):
        rng = random.Random(26)
        for _ in range(150):
            table = drawn_table(rng)
            view, names = drawn_view(rng, table)
            if rng.random() < 0.5:
                outer, more = drawn_view(rng, view)
                names = {name: names[more[name]] for name in more}
                view = outer
            self.look(rng, view, names, table, table.rows())

    def test_drawn_sums(self):
        rng = random.Random(27)
        for _ in range(100):
            sums = drawn_sums(rng)
            view, names = drawn_view(rng, sums)
            self.look(rng, view, names, sums, [drawn_world(rng, sums) for _ in range(4)])

    def look(self, rng, view, names, field, worlds):
        known, asked = drawn_names(rng, list(names)), rng.choice(list(names))
        meant = list(dict.fromkeys(names[name] for name in known))
        self.assertIs(view.is_told(known, asked), field.is_told(meant, names[asked]))
        plan, pair = view.plan(known, asked), view.apart(known, asked)
        self.assertEqual(plan is None, pair is not None)
        if plan is None:
            self.assertTrue(view.are_apart(known, asked, pair))
            self.assertTrue(field.are_apart(meant, names[asked], list(pair)))
            self.assertFalse(view.are_apart(known, asked, pair[:1]))
            one, other = view.answers(pair[0]), view.answers(pair[1])
            self.assertEqual([one[name] for name in known], [other[name] for name in known])
            self.assertNotEqual(one[asked], other[asked])
        else:
            self.assertTrue(view.is_plan(known, asked, plan))
            self.assertTrue(field.is_plan(meant, names[asked], plan))
            for world in worlds:
                answers = view.answers(world)
                self.assertEqual(answers, {name: field.answers(world)[names[name]] for name in names})
                self.assertEqual(view.found(known, asked, plan, answers), answers[asked])


class TestFound(unittest.TestCase):
    def test_order_of_first_names(self):
        view = View(TABLE, NAMES)
        plan = view.plan(["other", "again", "one"], "t")
        self.assertEqual(plan, {(0, 0): 0, (0, 1): 1, (1, 0): 1, (1, 1): 0})
        uneven = View(Table([{"a": 0, "b": 1, "s": 5}, {"a": 2, "b": 3, "s": 6}]), NAMES)
        self.assertEqual(uneven.plan(["again", "other", "one"], "t"), {(0, 1): 5, (2, 3): 6})
        self.assertFalse(uneven.is_plan(["again", "other", "one"], "t", {(0, 1, 0): 5, (2, 3, 2): 6}))
        self.assertFalse(uneven.is_plan(["other", "again", "one"], "t", {(0, 1): 5, (2, 3): 6}))

    def test_bad_answers(self):
        view = View(TABLE, NAMES)
        known = ["one", "other", "again"]
        plan = view.plan(known, "t")
        good = {"one": 1, "other": 0, "again": 1, "t": None}
        self.assertEqual(view.found(known, "t", plan, good), 1)
        for bad in ({"one": 1, "other": 0}, {"one": 1, "other": 0, "again": 0}, {"one": 1, "other": 0, "again": True},
                    {"one": True, "other": 0, "again": 1}, {"one": True, "other": 0, "again": True},
                    {"one": 2, "other": 0, "again": 2}, {"one": [], "other": 0, "again": []}, [], None, {},
                    {"one": "x", "other": 0, "again": "x"}):
            self.assertIs(caught(BadAnswers, view.found, known, "t", plan, bad).thing, bad)

    def test_unlike_answers_that_the_plan_does_not_need(self):
        sums = Sums(["x"], {"x": ({"x": 1}, 0), "none": ({}, 0)})
        view = View(sums, {"a": "x", "b": "x", "n": "none"})
        self.assertEqual(view.found(["a", "b"], "n", {}, {"a": 1, "b": 1}), 0)
        self.assertEqual(view.found(["a", "b"], "n", {}, {"a": [1], "b": (1,)}), 0)
        for bad in ({"a": 1, "b": 2}, {"a": 1, "b": True}, {"a": [1], "b": [True]}, {"a": [1], "b": [1, 1]},
                    {"a": (), "b": 0}, {"a": 0, "b": ()}, {"a": None, "b": []}, {"a": "x", "b": ["x"]}):
            self.assertIs(caught(BadAnswers, view.found, ["a", "b"], "n", {}, bad).thing, bad)

    def test_bad_plans(self):
        view = View(TABLE, NAMES)
        for thing in any_objects():
            self.assertIs(view.is_plan(["one", "other"], "t", thing), False)
            self.assertIs(caught(BadPlan, view.found, ["one", "other"], "t", thing, 3).thing, thing)

    def test_order_of_errors(self):
        view = View(TABLE, NAMES)
        calls = [(view.is_told, ()), (view.plan, ()), (view.is_plan, (3,)), (view.found, (3, 3)), (view.apart, ()),
                 (view.are_apart, (3,))]
        for work, rest in calls:
            for thing in any_objects():
                if not isinstance(thing, (list, tuple)):
                    self.assertEqual(caught(BadKnown, work, thing, "a", *rest).index, 0)
                self.assertEqual(caught(BadKnown, work, ["t", thing], "a", *rest).index, 1)
                self.assertIs(caught(NoQuestion, work, ["t"], thing, *rest).name, thing)
            self.assertEqual(caught(BadKnown, work, ["t", "one", "again", "one"], "a", *rest).index, 3)
        plan = view.plan(known=["t", "one"], asked="other")
        self.assertEqual(view.found(answers={"t": 1, "one": 1}, plan=plan, known=("t", "one"), asked="other"), 0)
        self.assertTrue(view.is_plan(thing=plan, asked="other", known=("t", "one")))
        self.assertTrue(view.are_apart(thing=view.apart([], "t"), asked="t", known=()))


if __name__ == "__main__":
    unittest.main()
