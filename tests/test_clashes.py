"""Promises [34] and [35], and the ladder of [36]."""

import random
import unittest
from fractions import Fraction
from itertools import product

from tests.helpers import any_objects, caught, drawn_names, drawn_sums, drawn_world, sum_of
from twoworlds.clashes import clash, is_clash, may_be, world_of
from twoworlds.errors import BadAnswers, BadKnown, NoQuestion
from twoworlds.ladders import ladder
from twoworlds.sums import Sums, step

TWO = Sums(["x", "y"], {"a": ({"x": 2, "y": 4}, 0), "b": ({"x": 3}, 5), "c": ({"x": 1, "y": 1}, 0), "d": ({"y": 1}, 5),
                        "no": ({}, 0)})


def plainly_clash(sums, answers, thing):
    """A clash by its rule, of dicts from names to pairs of integers, bottom from 1 on."""
    made = {unknown: Fraction(0) for unknown in sums.unknowns()}
    answered = Fraction(0)
    for name, (top, bottom) in thing.items():
        weight = Fraction(top, bottom)
        row, n = sums.row(name)
        if name not in answers or (weight * n).denominator != 1:
            return False
        answered += weight * answers[name]
        for unknown in row:
            made[unknown] += weight * row[unknown]
    return all(number.denominator == 1 for number in made.values()) and answered.denominator != 1


def drawn_answers(rng, sums):
    """Answers of a world, perhaps with one bent, or any answers."""
    known = drawn_names(rng, sums.questions())
    if rng.random() < 0.4:
        return {name: rng.randrange(sums.row(name)[1] or 12) for name in known}
    told = sums.answers(drawn_world(rng, sums))
    answers = {name: told[name] for name in known}
    if known and rng.random() < 0.6:
        name = rng.choice(known)
        modulus = sums.row(name)[1]
        answers[name] = rng.randrange(modulus) if modulus else answers[name] + rng.randint(-3, 3)
    return answers


class TestClashes(unittest.TestCase):
    def test_drawn(self):
        rng = random.Random(35)
        many = 0
        for _ in range(1500):
            sums = drawn_sums(rng, most=rng.choice((1, 3, 8)))
            answers = drawn_answers(rng, sums)
            before = dict(answers)
            world, found = world_of(sums, answers), clash(sums, answers)
            self.assertEqual(world is None, found is not None)
            if world is not None:
                self.assertEqual(list(world), sums.unknowns())
                told = sums.answers(world)
                self.assertEqual({name: told[name] for name in answers}, answers)
            else:
                many += 1
                self.look_at_clash(rng, sums, answers, found)
            for name in answers:
                bent = {name: (rng.randint(-3, 3), rng.randint(1, 6))}
                self.assertIs(is_clash(sums, answers, bent), plainly_clash(sums, answers, bent))
            for asked in sums.questions():
                self.look_at_may_be(sums, answers, asked, world)
            self.assertEqual(answers, before)
        self.assertGreater(many, 200)

    def look_at_clash(self, rng, sums, answers, found):
        self.assertIs(is_clash(sums, answers, found), True)
        self.assertTrue(plainly_clash(sums, answers, found))
        self.assertEqual(list(found), [name for name in sums.questions() if name in found])
        for weight in found.values():
            self.assertIs(type(weight), tuple)
            self.assertNotEqual(weight[0], 0)
            self.assertEqual((Fraction(*weight).numerator, Fraction(*weight).denominator), weight)
        self.assertTrue(is_clash(sums, answers, {name: [weight[0] * 4, weight[1] * 4]
                                                 for name, weight in found.items()}))
        self.assertTrue(is_clash(sums, answers, {**{name: (0, 7) for name in answers}, **found}))
        for name in answers:
            for weight in ((1, 1), (1, 2), (0, 1), (-2, 3)):
                bent = {**found, name: weight}
                self.assertIs(is_clash(sums, answers, bent), plainly_clash(sums, answers, bent))
        self.assertFalse(is_clash(sums, answers, {**found, "zz": (0, 1)}))
        self.assertFalse(is_clash(sums, answers, {**found, rng.choice(list(answers)): (1, 0)}))
        self.assertFalse(is_clash(sums, answers, {**found, rng.choice(list(answers)): (-1, -2)}))

    def look_at_may_be(self, sums, answers, asked, world):
        told = may_be(sums, answers, asked)
        if world is None:
            self.assertIsNone(told)
            return
        rest, by = told
        self.assertIs(type(told), tuple)
        self.assertEqual(by, step(sums, list(answers), asked))
        if by == 0:
            self.assertEqual(rest, sums.answers(world)[asked])
        else:
            self.assertTrue(0 <= rest < by)
            self.assertEqual((sum_of(sums, asked, world) - rest) % by, 0)

    def test_examples(self):
        self.assertEqual(TWO.answers(world_of(answers={"a": 6, "c": 2}, sums=TWO))["a"], 6)
        self.assertEqual(world_of(TWO, {"a": 6, "c": 2}), {"x": 1, "y": 1})
        self.assertIsNotNone(world_of(TWO, {}))
        self.assertIsNone(clash(TWO, {}))
        self.assertIsNone(world_of(TWO, {"a": 7}))
        self.assertEqual(clash(answers={"a": 7}, sums=TWO), {"a": (1, 2)})
        self.assertTrue(is_clash(thing={"a": (3, 6)}, answers={"a": 7}, sums=TWO))
        self.assertTrue(is_clash(TWO, {"no": 1}, {"no": (1, 2)}))
        self.assertTrue(is_clash(TWO, {"no": 6}, clash(TWO, {"no": 6})))
        self.assertFalse(is_clash(TWO, {"no": 6}, {"no": (1, 2)}))
        self.assertEqual(may_be(TWO, {"a": 6}, "c"), (0, 1))
        self.assertEqual(may_be(asked="a", answers={"c": 5}, sums=TWO), (0, 2))
        self.assertEqual(may_be(TWO, {"b": 1}, "a"), (0, 2))
        self.assertEqual(may_be(TWO, {"a": -6, "c": -2}, "b"), (2, 0))
        self.assertIsNone(may_be(TWO, {"a": 1}, "b"))
        self.assertEqual(may_be(TWO, {}, "no"), (0, 0))
        world = world_of(TWO, {"b": 2})
        world["x"] = "z"
        self.assertNotEqual(world_of(TWO, {"b": 2})["x"], "z")

    def test_any_objects(self):
        one = Sums(["a"], {"a": ({"a": 2}, 0)})
        for thing in any_objects():
            self.assertIs(is_clash(one, {"a": 1}, thing), thing == {"a": (1, 2)}, thing)
            self.assertIs(is_clash(one, {"a": 2}, thing), False, thing)
            good = isinstance(thing, dict) and (not thing or (list(thing) == ["a"] and type(thing["a"]) is int))
            if not good:
                self.assertIs(caught(BadAnswers, world_of, one, thing).thing, thing)
                self.assertIs(caught(BadAnswers, clash, one, thing).thing, thing)
                self.assertIs(caught(BadAnswers, is_clash, one, thing, 3).thing, thing)
                self.assertIs(caught(BadAnswers, may_be, one, thing, "zz").thing, thing)
            if not (isinstance(thing, str) and thing == "a"):
                self.assertIs(caught(NoQuestion, may_be, one, {"a": 1}, thing).name, thing)
        for bad in ({"b": 5}, {"b": -1}, {"b": True}, {"a": 1, "zz": 1}, {"d": 5, "a": 1}, {5: 1}):
            for work, rest in ((world_of, ()), (clash, ()), (is_clash, (3,)), (may_be, ("zz",))):
                self.assertIs(caught(BadAnswers, work, TWO, bad, *rest).thing, bad)
        self.assertIsNotNone(world_of(TWO, {"b": 4, "d": 0, "a": 6}))


class TestLadder(unittest.TestCase):
    def test_drawn(self):
        rng = random.Random(37)
        for _ in range(400):
            sums = drawn_sums(rng, most_unknowns=3, most=4)
            known = drawn_names(rng, sums.questions())
            rungs = ladder(sums, known)
            self.look_at_form(sums, rungs)
            for rung in rungs:
                answers = sums.answers(dict(zip(sums.unknowns(), rung)))
                self.assertTrue(all(answers[name] == 0 for name in known))
            self.look_at_worlds(sums, known, rungs)
            for asked in sums.questions():
                parts = [sum_of(sums, asked, dict(zip(sums.unknowns(), rung))) for rung in rungs]
                modulus = sums.row(asked)[1]
                told = all(part == 0 if modulus == 0 else part % modulus == 0 for part in parts)
                self.assertIs(sums.is_told(known, asked), told)
            more = [*known, *[name for name in sums.questions() if name not in known and sums.is_told(known, name)]]
            self.assertEqual(ladder(sums, rng.sample(more, len(more))), rungs)

    def look_at_form(self, sums, rungs):
        self.assertIs(type(rungs), list)
        at = -1
        for index, rung in enumerate(rungs):
            self.assertIs(type(rung), tuple)
            self.assertEqual(len(rung), len(sums.unknowns()))
            place = [number != 0 for number in rung].index(True)
            self.assertGreater(place, at)
            self.assertGreater(rung[place], 0)
            for ahead in rungs[:index]:
                self.assertTrue(0 <= ahead[place] < rung[place])
            at = place

    def look_at_worlds(self, sums, known, rungs):
        """Each small world in which all of known are 0 is made of the rungs."""
        for numbers in product(range(-3, 4), repeat=len(sums.unknowns())):
            answers = sums.answers(dict(zip(sums.unknowns(), numbers)))
            left = list(numbers)
            for rung in rungs:
                place = [number != 0 for number in rung].index(True)
                times = left[place] // rung[place]
                left = [a - times * b for a, b in zip(left, rung)]
            self.assertEqual(not any(left), all(answers[name] == 0 for name in known))

    def test_examples(self):
        self.assertEqual(ladder(TWO, []), [(1, 0), (0, 1)])
        self.assertEqual(ladder(known=("a",), sums=TWO), [(2, -1)])
        self.assertEqual(ladder(TWO, ["b"]), [(5, 0), (0, 1)])
        self.assertEqual(ladder(TWO, ["a", "c"]), [])
        self.assertEqual(ladder(TWO, ["no"]), [(1, 0), (0, 1)])
        self.assertEqual(ladder(TWO, ["b", "a"]), [(10, -5)])
        both = Sums(["x", "y"], {"a": ({"x": 1, "y": 2}, 5)})
        self.assertEqual(ladder(both, ["a"]), [(1, 2), (0, 5)])
        ladder(TWO, []).clear()
        self.assertEqual(ladder(TWO, []), [(1, 0), (0, 1)])

    def test_errors(self):
        for thing in any_objects():
            if not isinstance(thing, (list, tuple)):
                self.assertEqual(caught(BadKnown, ladder, TWO, thing).index, 0)
            if thing not in ("a", "b"):
                self.assertEqual(caught(BadKnown, ladder, TWO, ["c", thing]).index, 1)
        self.assertEqual(caught(BadKnown, ladder, TWO, ["c", "a", "c"]).index, 2)


if __name__ == "__main__":
    unittest.main()
