"""Promises [30] to [33], [10] to [13] of sums, and helps of [36]."""

import random
import unittest
from fractions import Fraction
from math import gcd

from tests.helpers import any_objects, caught, drawn_names, drawn_sums, drawn_world, sum_of
from twoworlds.errors import (BadAnswers, BadKnown, BadNumber, BadPlan, BadSum, BadUnknown, BadWorld, NoQuestion)
from twoworlds.sums import Sums, helps, parted, step

AGES = Sums(["x", "y"], {"sum": ({"y": 1, "x": 1}, 0), "less": ({"x": 1, "y": -1}, 0), "x": ({"x": 1}, 0),
                         "odd": ({"x": 1, "y": 1}, 2), "four": ({"x": 3}, 4), "no": ({}, 0), "six": ({"x": 2}, 6)})


def plainly_plan(sums, known, asked, thing):
    """A plan by its rule, of dicts from names to pairs of integers, bottom from 1 on."""
    row, modulus = sums.row(asked)

    def fits(number):
        return number.denominator == 1 and (number == 0 if modulus == 0 else number % modulus == 0)
    made = {unknown: Fraction(-row.get(unknown, 0)) for unknown in sums.unknowns()}
    for name, (top, bottom) in thing.items():
        other, n = sums.row(name)
        if name not in known or not fits(Fraction(top, bottom) * n):
            return False
        for unknown in other:
            made[unknown] += Fraction(top, bottom) * other[unknown]
    return all(fits(number) for number in made.values())


class TestMaking(unittest.TestCase):
    def test_rows(self):
        questions = {"q": ({"z": 0, "y": -3, "x": 2}, 0), "r": [{"x": 7}, 5], "none": ({}, 2)}
        unknowns = ["x", "y", "z"]
        sums = Sums(unknowns, questions)
        self.assertEqual(sums.questions(), ["q", "r", "none"])
        self.assertEqual(sums.unknowns(), ["x", "y", "z"])
        self.assertEqual(sums.row("q"), ({"x": 2, "y": -3}, 0))
        self.assertEqual(list(sums.row(name="q")[0]), ["x", "y"])
        self.assertIs(type(sums.row("q")), tuple)
        self.assertEqual(sums.row("r"), ({"x": 7}, 5))
        self.assertEqual(sums.row("none"), ({}, 2))
        questions["q"][0]["x"] = 9
        questions["zz"] = 1
        unknowns.append("w")
        sums.row("q")[0]["x"] = 9
        sums.unknowns().clear()
        sums.questions().clear()
        self.assertEqual(sums.row("q"), ({"x": 2, "y": -3}, 0))
        self.assertEqual((sums.unknowns(), sums.questions()), (["x", "y", "z"], ["q", "r", "none"]))
        self.assertEqual(Sums(questions={"q": ({}, 0)}, unknowns=("x",)).unknowns(), ["x"])

    def test_equality(self):
        def made(unknowns=("x", "y"), **more):
            return Sums(unknowns, {"a": ({"x": 1, "y": 2}, 0), "b": ({"x": 1}, 3), **more})
        self.assertTrue(made() == made())
        self.assertFalse(made() != made())
        self.assertTrue(made() == made(b=[{"y": 0, "x": 1}, 3]))
        self.assertTrue(made() == made(a=({"y": 2, "x": 1}, 0)))
        self.assertFalse(made() == made(("y", "x")))
        self.assertFalse(made() == made(("x", "y", "z")))
        self.assertFalse(Sums(["x"], {"a": ({"x": 1}, 0)}) == Sums(["y"], {"a": ({"y": 1}, 0)}))
        self.assertFalse(made() == made(b=({"x": 1}, 4)))
        self.assertFalse(made() == made(b=({"x": 4}, 3)))
        self.assertFalse(made() == made(c=({"x": 4}, 3)))
        self.assertFalse(made() == Sums(["x", "y"], {"b": ({"x": 1}, 3), "a": ({"x": 1, "y": 2}, 0)}))
        for thing in any_objects():
            self.assertFalse(made() == thing)

    def test_bad_unknowns(self):
        for thing in any_objects():
            if not isinstance(thing, (list, tuple)) or not thing:
                self.assertEqual(caught(BadUnknown, Sums, thing, 3).index, 0)
            if not (isinstance(thing, str) and thing in ("a", "b", "zz", "abc")):
                self.assertEqual(caught(BadUnknown, Sums, ["x", thing, "y"], 3).index, 1)
        self.assertEqual(caught(BadUnknown, Sums, ["x", "y", "x"], {}).index, 2)
        self.assertEqual(caught(BadUnknown, Sums, ["x", "a" * 41], {}).index, 1)

    def test_bad_sums(self):
        good = ({"x": 1}, 0)
        for thing in any_objects():
            if not isinstance(thing, dict) or not thing:
                self.assertIsNone(caught(BadSum, Sums, ["x"], thing).name)
            self.assertEqual(caught(BadSum, Sums, ["x"], {"q": good, "r": thing, "s": 5}).name, "r")
            if not (isinstance(thing, dict) and not thing):
                self.assertEqual(caught(BadSum, Sums, ["x"], {"q": good, "r": (thing, 0), "s": 5}).name, "r")
            if type(thing) is not int or thing in (1, -1):
                self.assertEqual(caught(BadSum, Sums, ["x"], {"q": good, "r": ({"x": 1}, thing)}).name, "r")
            if type(thing) is not int:
                self.assertEqual(caught(BadSum, Sums, ["x"], {"q": good, "r": ({"x": thing}, 0)}).name, "r")
        for name in (1, None, True, "", "A", "a" * 41, ("a",)):
            self.assertEqual(caught(BadSum, Sums, ["x"], {"q": good, name: good, "s": 5}).name, name)
        for bad in (({"y": 1}, 0), ({"x": 1, 5: 1}, 0), ({"x": 1}, -2), ({"x": 1}, 1), ({"x": 1},), ({"x": 1}, 0, 0)):
            self.assertEqual(caught(BadSum, Sums, ["x"], {"q": bad}).name, "q")

    def test_no_question(self):
        for thing in any_objects():
            self.assertIs(caught(NoQuestion, AGES.row, thing).name, thing)


class TestWorlds(unittest.TestCase):
    def test_answers(self):
        world = {"y": -5, "x": 2}
        answers = AGES.answers(world=world)
        self.assertEqual(list(answers.items()), [("sum", -3), ("less", 7), ("x", 2), ("odd", 1), ("four", 2),
                                                 ("no", 0), ("six", 4)])
        self.assertEqual(AGES.answers({"x": -1, "y": 0})["four"], 1)
        self.assertEqual(AGES.answers(AGES.home()).keys(), answers.keys())
        self.assertEqual(list(AGES.home()), ["x", "y"])
        AGES.home()["x"] = "z"
        AGES.answers(AGES.home())["sum"] = "z"
        self.assertTrue(all(type(number) is int for number in AGES.answers(AGES.home()).values()))
        for thing in [*any_objects(), {"x": 1}, {"x": 1, "y": True}, {"x": 1, "y": 1, "z": 1}, {"x": 1, "z": 1},
                      {"x": 1, "y": "1"}, ["x", "y"]]:
            self.assertIs(caught(BadWorld, AGES.answers, thing).thing, thing)


class TestTold(unittest.TestCase):
    def test_examples(self):
        self.assertEqual(AGES.plan(["sum", "less"], "x"), {"sum": (1, 2), "less": (1, 2)})
        self.assertEqual(list(AGES.plan(["less", "sum"], "x")), ["less", "sum"])
        self.assertEqual(AGES.plan(["sum", "no"], "sum"), {"sum": (1, 1)})
        self.assertEqual(AGES.plan([], "no"), {})
        self.assertIsNone(AGES.plan(["odd"], "sum"))
        self.assertIs(AGES.is_told(["less"], "odd"), True)
        self.assertIs(AGES.is_told(["sum"], "less"), False)
        self.assertIs(AGES.is_told(["four"], "six"), False)
        self.assertIs(AGES.is_told(["x"], "six"), True)

    def test_drawn(self):
        rng = random.Random(32)
        for _ in range(1500):
            sums = drawn_sums(rng, most=rng.choice((1, 2, 5, 12)))
            known, asked = drawn_names(rng, sums.questions()), rng.choice(sums.questions())
            plan, pair = sums.plan(known, asked), sums.apart(known, asked)
            self.assertEqual(plan is None, pair is not None)
            self.assertIs(sums.is_told(known, asked), plan is not None)
            if plan is None:
                self.look_at_pair(sums, known, asked, pair)
            else:
                self.look_at_plan(rng, sums, known, asked, plan)
            self.assertFalse(plan is None and sums.is_plan(known, asked, {}))
            one, other = drawn_world(rng, sums, 2), drawn_world(rng, sums, 2)
            right = all(sums.answers(one)[name] == sums.answers(other)[name] for name in known)
            right = right and sums.answers(one)[asked] != sums.answers(other)[asked]
            self.assertIs(sums.are_apart(known, asked, (one, other)), right)

    def look_at_pair(self, sums, known, asked, pair):
        self.assertIs(type(pair), tuple)
        one, other = sums.answers(pair[0]), sums.answers(pair[1])
        self.assertEqual([one[name] for name in known], [other[name] for name in known])
        self.assertNotEqual(one[asked], other[asked])
        self.assertIs(sums.are_apart(known, asked, pair), True)
        self.assertIs(sums.are_apart(known, asked, list(pair)[::-1]), True)
        for bent in (pair[:1], (*pair, pair[0]), (pair[0], pair[0]), (pair[0], None), (pair[0], {**pair[1], "zz": 1}),
                     (pair[0], {**pair[1], sums.unknowns()[0]: True}), 3, {}, ({**pair[0], "zz": 1}, pair[1]),
                     ([], pair[1]), ({**pair[0], sums.unknowns()[0]: False}, pair[1])):
            self.assertIs(sums.are_apart(known, asked, bent), False)

    def look_at_plan(self, rng, sums, known, asked, plan):
        self.assertIs(sums.is_plan(known, asked, plan), True)
        self.assertTrue(plainly_plan(sums, known, asked, plan))
        self.assertEqual(list(plan), [name for name in known if name in plan])
        for weight in plan.values():
            self.assertIs(type(weight), tuple)
            self.assertTrue(weight[0] != 0 and weight[1] >= 1 and gcd(*weight) == 1)
        others = [plan, {name: [weight[0] * 6, weight[1] * 6] for name, weight in plan.items()},
                  {**{name: (0, 3) for name in known}, **plan}, self.shifted(rng, sums, known, asked, plan)]
        for other in others:
            self.assertIs(sums.is_plan(tuple(known), asked, other), True)
            for _ in range(3):
                answers = sums.answers(drawn_world(rng, sums))
                self.assertEqual(sums.found(known, asked, other, answers), answers[asked])
        for name in known:
            for weight in ((1, 1), (1, 2), (0, 1), (-3, 7), (2, 4)):
                bent = {**plan, name: weight}
                self.assertIs(sums.is_plan(known, asked, bent), plainly_plan(sums, known, asked, bent))
            bent = {one: plan[one] for one in plan if one != name}
            self.assertIs(sums.is_plan(known, asked, bent), plainly_plan(sums, known, asked, bent))

    def shifted(self, rng, sums, known, asked, plan):
        """Another plan, by the weights that a question may have more: multiples of the modulus."""
        modulus = sums.row(asked)[1]
        out = dict(plan)
        if modulus != 0:
            for name in known:
                top, bottom = out.get(name, (0, 1))
                out[name] = (top + rng.randint(-2, 2) * modulus * bottom, bottom)
        return out

    def test_any_objects(self):
        field = Sums(["a"], {"a": ({"a": 1}, 0), "b": ({"a": 2}, 0)})
        for thing in any_objects():
            self.assertIs(field.is_plan(["a"], "a", thing), False, thing)
            self.assertIs(field.is_plan(["a"], "b", thing), False, thing)
            self.assertIs(field.are_apart([], "a", thing), False)
            self.assertIs(caught(BadPlan, field.found, ["a"], "a", thing, 3).thing, thing)
        for bent in ({"b": (1, 2)}, {"a": (1, 0)}, {"a": (-1, -1)}, {"a": (1, -1)}, {"a": (1, True)}, {"a": (True, 1)},
                     {"a": 1}, {"a": (1, 1, 1)}, {"a": (1,)}, {"a": (1, 1), "b": (0, 1)}, {"a": (1, 1), 5: (0, 1)},
                     [("a", (1, 1))], {"a": "11"}):
            self.assertIs(field.is_plan(["a"], "a", bent), False, bent)
        for right in ({"a": (1, 1)}, {"a": [1, 1]}, {"a": (5, 5)}):
            self.assertIs(field.is_plan(["a"], "a", right), True)
        self.assertIs(field.is_plan(["a", "b"], "a", {"b": (1, 2)}), True)
        self.assertIs(field.is_plan(["a", "b"], "a", {"b": (1, 4), "a": (1, 2)}), True)

    def test_found(self):
        plan = {"sum": (1, 2), "less": (1, 2)}
        known = ["sum", "less", "no"]
        self.assertEqual(AGES.found(answers={"sum": 5, "less": 3, "no": 0}, plan=plan, asked="x", known=known), 4)
        self.assertEqual(AGES.found(known, "x", plan, {"sum": -5, "less": 3, "no": None, "zz": 1}), -1)
        self.assertEqual(AGES.found(["x"], "six", {"x": (2, 1)}, {"x": -1}), 4)
        self.assertEqual(AGES.found(["x"], "six", {"x": (8, 1)}, {"x": 10 ** 70 - 1}), (8 * (10 ** 70 - 1)) % 6)
        for bad in ({"sum": 5, "less": 2, "no": 0}, {"sum": 5, "less": True, "no": 0}, {"sum": 5, "less": 3}, [], None,
                    {"sum": 5, "less": None, "no": 0}, {"sum": 5, "less": "3", "no": 0}, {"less": 3, "no": 0}, {}):
            self.assertIs(caught(BadAnswers, AGES.found, known, "x", plan, bad).thing, bad)
        bad = {"sum": 5, "less": 3, "no": None}
        plan = {**plan, "no": (0, 1)}
        self.assertIs(caught(BadAnswers, AGES.found, known, "x", plan, bad).thing, bad)

    def test_order_of_errors(self):
        calls = [(AGES.is_told, ()), (AGES.plan, ()), (AGES.is_plan, (3,)), (AGES.found, (3, 3)), (AGES.apart, ()),
                 (AGES.are_apart, (3,))]
        calls += [(lambda *rest: step(AGES, *rest), ()), (lambda *rest: helps(AGES, *rest), ()),
                  (lambda *rest: parted(AGES, *rest), ("no number",))]
        for work, rest in calls:
            for thing in any_objects():
                if not isinstance(thing, (list, tuple)):
                    self.assertEqual(caught(BadKnown, work, thing, "zz", *rest).index, 0)
                self.assertEqual(caught(BadKnown, work, ["sum", "no", thing], "zz", *rest).index, 2)
                self.assertIs(caught(NoQuestion, work, ["sum"], thing, *rest).name, thing)
            self.assertEqual(caught(BadKnown, work, ["sum", "no", "sum"], "zz", *rest).index, 2)


class TestSteps(unittest.TestCase):
    def test_drawn(self):
        rng = random.Random(33)
        for _ in range(700):
            sums = drawn_sums(rng, most=rng.choice((2, 5, 12)))
            known, asked = drawn_names(rng, sums.questions()), rng.choice(sums.questions())
            modulus = sums.row(asked)[1]
            by = step(sums, known, asked)
            self.assertEqual(by == 0, sums.is_told(known, asked))
            for much in [*range(-14, 15), by, 5 * by, by + 1, 10 ** 20]:
                pair = parted(sums, known, asked, much)
                right = self.fits(much, modulus) if by == 0 else any(
                    self.fits(much - times * by, modulus) for times in range(-200, 200)) or much % by == 0
                self.assertEqual(pair is not None, right, (by, much, modulus))
                if pair is not None:
                    self.assertIs(type(pair), tuple)
                    one, other = sums.answers(pair[0]), sums.answers(pair[1])
                    self.assertEqual([one[name] for name in known], [other[name] for name in known])
                    more = sum_of(sums, asked, pair[1]) - sum_of(sums, asked, pair[0])
                    self.assertTrue(self.fits(more - much, modulus))

    def fits(self, number, modulus):
        return number == 0 if modulus == 0 else number % modulus == 0

    def test_step_by_counting(self):
        rng = random.Random(34)
        for _ in range(60):
            sums = drawn_sums(rng, most_unknowns=2, most_questions=4, most=3, moduli=(2, 3, 4, 6))
            known, asked = drawn_names(rng, sums.questions()), rng.choice(sums.questions())
            modulus = sums.row(asked)[1]
            worlds = [{}]
            for unknown in sums.unknowns():
                worlds = [{**world, unknown: number} for world in worlds for number in range(12)]
            zero = [world for world in worlds if all(sums.answers(world)[name] == 0 for name in known)]
            found = {sums.answers(world)[asked] for world in zero} - {0}
            self.assertEqual(step(sums, known, asked), min(found, default=0))
            self.assertEqual({much for much in range(1, modulus) if parted(sums, known, asked, much)}, found)

    def test_examples(self):
        self.assertEqual(step(AGES, ["sum"], "less"), 2)
        self.assertEqual(step(asked="x", known=(), sums=AGES), 1)
        self.assertEqual(step(AGES, [], "six"), 2)
        self.assertEqual(step(AGES, ["sum", "less"], "x"), 0)
        self.assertEqual(step(AGES, ["four"], "x"), 4)
        self.assertEqual(parted(much=0, asked="x", known=["sum", "less"], sums=AGES),
                         ({"x": 0, "y": 0}, {"x": 0, "y": 0}))
        self.assertIsNone(parted(AGES, ["sum"], "less", 3))
        self.assertIsNone(parted(AGES, ["x"], "six", 3))
        self.assertIsNotNone(parted(AGES, ["x"], "six", 6))
        self.assertIsNotNone(parted(AGES, ["x"], "six", -12))
        pair = parted(AGES, ["sum"], "less", -10 ** 69)
        self.assertEqual(AGES.answers(pair[1])["less"] - AGES.answers(pair[0])["less"], -10 ** 69)
        pair[0]["x"] = 5
        self.assertEqual(AGES.home(), {"x": 0, "y": 0})
        for thing in any_objects():
            if type(thing) is not int:
                self.assertIs(caught(BadNumber, parted, AGES, ["sum"], "x", thing).thing, thing)

    def test_helps(self):
        rng = random.Random(36)
        for _ in range(150):
            sums = drawn_sums(rng)
            known, asked = drawn_names(rng, sums.questions()), rng.choice(sums.questions())
            told = helps(sums, known, asked)
            self.assertEqual(list(told), [name for name in sums.questions() if name not in known])
            for name in told:
                self.assertEqual(told[name], step(sums, [*known, name], asked))
        self.assertEqual(helps(asked="x", known=["sum"], sums=AGES),
                         {"less": 0, "x": 0, "odd": 1, "four": 4, "no": 1, "six": 3})


if __name__ == "__main__":
    unittest.main()
