"""Promise [103]."""

import random
import unittest

from tests.helpers import DRAWS, any_objects, caught, drawn_mix, drawn_names, drawn_view, some_worlds
from twoworlds.boxes import Box
from twoworlds.errors import BadAnswers, BadKnown, BadPart, BadPlan, BadWorld, NoQuestion
from twoworlds.mixes import Mix
from twoworlds.sums import Sums
from twoworlds.tables import Table
from twoworlds.views import View

TABLE = Table([{"b": x, "a": y, "s": x ^ y} for x in (0, 1) for y in (0, 1)])
SUMS = Sums(["x", "y"], {"a": ({"x": 1, "y": 1}, 0), "x": ({"x": 1}, 0), "y": ({"y": 1}, 3)})
BOX = Box({"p": {"x": ("u", "q")}, "q": {"x": ("v", "q")}}, {"two": ["x", "x"], "no": []})
PARTS = {"t": TABLE, "n": SUMS, "box": BOX}
MIX = Mix(PARTS)


class TestMixes(unittest.TestCase):
    def test_making(self):
        parts = dict(PARTS)
        mix = Mix(parts=parts)
        parts["t"] = SUMS
        del parts["box"]
        mix.parts().clear()
        mix.questions().clear()
        self.assertEqual(mix.questions(), ["t.b", "t.a", "t.s", "n.a", "n.x", "n.y", "box.two", "box.no"])
        self.assertEqual(list(mix.parts().items()), list(PARTS.items()))
        self.assertEqual(list(mix.home()), ["t", "n", "box"])
        self.assertEqual(Mix({"m.n": TABLE}).questions(), ["m.n.b", "m.n.a", "m.n.s"])

    def test_bad_parts(self):
        for thing in any_objects():
            if not isinstance(thing, dict) or not thing:
                self.assertIsNone(caught(BadPart, Mix, thing).name)
        for name in (1, None, True, "", "A", "a" * 41, ("a",), "a b", "a\n", 0):
            self.assertEqual(caught(BadPart, Mix, {"t": TABLE, name: SUMS, "X": BOX}).name, name)

    def test_worlds(self):
        world = {"box": "q", "n": {"y": 4, "x": -1}, "t": {"a": 1, "s": 1, "b": 0}}
        told = MIX.answers(world=world)
        self.assertEqual(list(told.items()), [("t.b", 0), ("t.a", 1), ("t.s", 1), ("n.a", 3), ("n.x", -1), ("n.y", 1),
                                              ("box.two", ("v", "v")), ("box.no", ())])
        for thing in [*any_objects(), {**world, "more": 1}, {name: world[name] for name in ("t", "n")}, {},
                      {**world, "box": "r"}, {**world, "box": ["q"]}, {**world, "t": {"a": 1, "s": 0, "b": 0}},
                      {**world, "n": {"x": 1}}, {**world, "n": None}, [world], {"t": world, "n": world, "box": world}]:
            self.assertIs(caught(BadWorld, MIX.answers, thing).thing, thing)

    def test_equality(self):
        self.assertTrue(MIX == Mix({"t": Table(TABLE.rows()), "n": SUMS, "box": BOX}))
        self.assertFalse(MIX != Mix(dict(PARTS)))
        self.assertFalse(MIX == Mix({"n": SUMS, "t": TABLE, "box": BOX}))
        self.assertFalse(MIX == Mix({"t": TABLE, "n": SUMS}))
        self.assertFalse(MIX == Mix({**PARTS, "box": SUMS}))
        self.assertFalse(MIX == Mix({"t": Table(TABLE.rows()[::-1]), "n": SUMS, "box": BOX}))
        self.assertFalse(Mix({"t": TABLE}) == TABLE)
        self.assertFalse(Mix({"t": TABLE}) == View(TABLE, {"t.a": "a", "t.b": "b", "t.s": "s"}))
        self.assertTrue(Mix({"m": MIX}) == Mix({"m": Mix(PARTS)}))
        for thing in any_objects():
            self.assertFalse(MIX == thing)

    def test_plans(self):
        known = ["n.a", "t.a", "box.no", "n.x", "t.b"]
        self.assertEqual(MIX.plan(known, "t.s"), TABLE.plan(["a", "b"], "s"))
        self.assertEqual(MIX.plan(known, "n.y"), SUMS.plan(["a", "x"], "y"))
        self.assertIsNone(MIX.plan(["t.a", "n.a", "n.x"], "t.s"))
        self.assertIs(MIX.is_plan(known, "t.s", {(0, 0): 0, (0, 1): 1, (1, 0): 1, (1, 1): 0}), True)
        self.assertIs(MIX.is_plan(thing=[(["p"], ("u", "v")), (["q"], ("v", "v"))], asked="box.two", known=known), False)
        uneven = Table([{"a": 0, "b": 1, "s": 5}, {"a": 2, "b": 3, "s": 6}])
        self.assertEqual(Mix({"u": uneven, "n": SUMS}).plan(["u.b", "n.x", "u.a"], "u.s"), {(1, 0): 5, (3, 2): 6})
        for thing in any_objects():
            self.assertIs(MIX.is_plan(known, "t.s", thing), False)
            self.assertIs(caught(BadPlan, MIX.found, known, "t.s", thing, 3).thing, thing)
            self.assertIs(MIX.are_apart([], "t.s", thing), False)
            self.assertIs(MIX.are_apart([], "t.s", (MIX.home(), thing)), False)

    def test_found(self):
        known = ["n.a", "t.a", "t.b", "box.two"]
        plan = MIX.plan(known, "t.s")
        good = {"t.a": 1, "t.b": 0, "n.a": 7, "box.two": ("u", "v"), "n.x": None}
        self.assertEqual(MIX.found(answers=good, plan=plan, asked="t.s", known=known), 1)
        lacking = {name: good[name] for name in ("t.a", "t.b", "n.a")}
        for bad in (lacking, {}, None, [], {**good, "t.a": 5}, {**good, "t.b": True}, {**good, "t.a": []}):
            self.assertIs(caught(BadAnswers, MIX.found, known, "t.s", plan, bad).thing, bad)
        plan = MIX.plan(["n.a", "n.x"], "n.y")
        bad = {"n.a": 3, "n.x": "1"}
        self.assertIs(caught(BadAnswers, MIX.found, ["n.a", "n.x"], "n.y", plan, bad).thing, bad)
        deep = Mix({"m": MIX, "v": View(MIX, {"w": "t.s", "a": "t.a", "a2": "t.a"})})
        plan = deep.plan(["m.t.a", "m.t.b", "v.a"], "m.t.s")
        self.assertEqual(deep.found(["m.t.a", "m.t.b", "v.a"], "m.t.s", plan, {"m.t.a": 1, "m.t.b": 1, "v.a": 0}), 0)
        bad = {"m.t.a": 1, "m.t.b": 9, "v.a": 0}
        self.assertIs(caught(BadAnswers, deep.found, ["m.t.a", "m.t.b", "v.a"], "m.t.s", plan, bad).thing, bad)
        bad = {"v.a": 0, "v.a2": 1}
        plan = deep.plan(["v.a", "v.a2"], "v.a")
        self.assertIs(caught(BadAnswers, deep.found, ["v.a", "v.a2"], "v.a", plan, bad).thing, bad)

    def test_order_of_errors(self):
        for work, rest in [(MIX.is_told, ()), (MIX.plan, ()), (MIX.is_plan, (3,)), (MIX.found, (3, 3)), (MIX.apart, ()),
                           (MIX.are_apart, (3,))]:
            for thing in any_objects():
                if not isinstance(thing, (list, tuple)):
                    self.assertEqual(caught(BadKnown, work, thing, "zz", *rest).index, 0)
                self.assertEqual(caught(BadKnown, work, ["t.a", thing], "zz", *rest).index, 1)
                self.assertIs(caught(NoQuestion, work, ["n.a"], thing, *rest).name, thing)
            self.assertEqual(caught(BadKnown, work, ["t.a", "n.a", "t.a"], "zz", *rest).index, 2)
            self.assertEqual(caught(BadKnown, work, ["t.a", "n.s"], "zz", *rest).index, 1)
            self.assertEqual(caught(NoQuestion, work, ["t.a"], "a", *rest).name, "a")

    def test_told_by_its_part_alone(self):
        rng = random.Random(103)
        for _ in range(150):
            mix = drawn_mix(rng, 1) if rng.random() < 0.5 else Mix({
                "v": drawn_view(rng, DRAWS[rng.choice(list(DRAWS))](rng)), "m": drawn_mix(rng, 0)})
            parts = mix.parts()
            names = [(part, name) for part in parts for name in parts[part].questions()]
            self.assertEqual(mix.questions(), [f"{part}.{name}" for part, name in names])
            known, (part, asked) = drawn_names(rng, names), rng.choice(names)
            own = [name for one, name in known if one == part]
            known, whole = [f"{one}.{name}" for one, name in known], f"{part}.{asked}"
            self.assertIs(mix.is_told(known, whole), parts[part].is_told(own, asked))
            self.assertEqual(mix.plan(known, whole), parts[part].plan(own, asked))
            for world in some_worlds(rng, mix, 3):
                answers = {one: parts[one].answers(world[one]) for one in parts}
                self.assertEqual(mix.answers(world), {f"{one}.{name}": answers[one][name] for one, name in names})
            pair = mix.apart(known, whole)
            if pair is not None:
                self.assertTrue(parts[part].are_apart(own, asked, (pair[0][part], pair[1][part])))
                self.assertEqual([list(world) for world in pair], [list(parts)] * 2)
                bent = ({**pair[0], "zz": 1}, pair[1])
                self.assertIs(mix.are_apart(known, whole, bent), False)
                self.assertIs(mix.are_apart(known, whole, (pair[0], pair[0])), False)


if __name__ == "__main__":
    unittest.main()
