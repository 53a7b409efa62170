"""Promises [37] to [39], and [10] to [13] of shares."""

import random
import unittest
from itertools import product

from tests.helpers import any_objects, caught, drawn_names, not_integers, subsets
from twoworlds.engine import least_files, secrets
from twoworlds.errors import (BadAnswers, BadHolder, BadKnown, BadNumber, BadPlan, BadPrime, BadSum, BadUnknown,
                              BadWorld, NoQuestion)
from twoworlds.hands import is_safe, least_groups
from twoworlds.shares import Shares, handed_out, spread, world_count
from twoworlds.sums import Sums

FIVE = Shares(5, ["x", "y"], {"a": {"y": 12, "x": -1}, "b": {"x": 1, "y": 5}, "c": {"x": 2}, "no": {}})


def drawn_shares(rng, most=9):
    prime = rng.choice((2, 3, 5))
    unknowns = ["y", "x", "z", "w"][:rng.randint(1, 4 if prime < 5 else 3)]
    questions = {f"q{place}": {name: rng.randint(-most, most) for name in drawn_names(rng, unknowns)}
                 for place in range(rng.randint(1, 5))}
    return Shares(prime, unknowns, questions)


def all_worlds(shares):
    return [dict(zip(shares.unknowns(), numbers))
            for numbers in product(range(shares.prime), repeat=len(shares.unknowns()))]


def plainly_plan(shares, known, asked, thing):
    left = {unknown: shares.row(asked).get(unknown, 0) for unknown in shares.unknowns()}
    for name, weight in thing.items():
        if name not in known or not 1 <= weight < shares.prime:
            return False
        for unknown, number in shares.row(name).items():
            left[unknown] -= weight * number
    return all(number % shares.prime == 0 for number in left.values())


class TestMaking(unittest.TestCase):
    def test_rows(self):
        self.assertEqual(FIVE.prime, 5)
        self.assertEqual(FIVE.questions(), ["a", "b", "c", "no"])
        self.assertEqual(FIVE.unknowns(), ["x", "y"])
        self.assertEqual(list(FIVE.row("a").items()), [("x", 4), ("y", 2)])
        self.assertEqual(FIVE.row(name="b"), {"x": 1})
        self.assertEqual(FIVE.row("no"), {})
        FIVE.row("a")["x"] = 7
        FIVE.unknowns().clear()
        FIVE.questions().clear()
        self.assertEqual((FIVE.row("a"), FIVE.unknowns()), ({"x": 4, "y": 2}, ["x", "y"]))
        questions, unknowns = {"a": {"x": 1}}, ["x"]
        shares = Shares(questions=questions, unknowns=unknowns, prime=2)
        questions["a"]["x"] = 0
        unknowns.clear()
        self.assertEqual((shares.row("a"), shares.unknowns()), ({"x": 1}, ["x"]))
        for thing in any_objects():
            if thing not in ("a", "b"):
                self.assertIs(caught(NoQuestion, FIVE.row, thing).name, thing)

    def test_equality(self):
        def made(prime=5, unknowns=("x", "y"), **more):
            return Shares(prime, unknowns, {"a": {"x": 1, "y": 2}, "b": {"x": 3}, **more})
        self.assertTrue(made() == made())
        self.assertFalse(made() != made())
        self.assertTrue(made() == made(a={"y": 7, "x": -4}, b={"x": 8, "y": 10}))
        self.assertFalse(made() == made(7))
        self.assertFalse(made() == made(5, ("y", "x")))
        self.assertFalse(made() == made(5, ("x", "y", "z")))
        self.assertFalse(Shares(5, ["x"], {"a": {"x": 1}}) == Shares(5, ["y"], {"a": {"y": 1}}))
        self.assertFalse(made() == made(b={"x": 4}))
        self.assertFalse(made() == made(c={"x": 4}))
        self.assertFalse(made() == Shares(5, ["x", "y"], {"b": {"x": 3}, "a": {"x": 1, "y": 2}}))
        self.assertFalse(made() == Sums(["x", "y"], {"a": ({"x": 1, "y": 2}, 5), "b": ({"x": 3}, 5)}))
        for thing in any_objects():
            self.assertFalse(made() == thing)

    def test_primes(self):
        primes = [n for n in range(2, 998) if all(n % d for d in range(2, n))]
        for thing in [*any_objects(), *range(-5, 1100), 7919, 10 ** 14 + 31]:
            if type(thing) is int and thing in primes:
                self.assertEqual(Shares(thing, ["x"], {"a": {"x": 1}}).prime, thing)
            else:
                self.assertIs(caught(BadPrime, Shares, thing, 3, 3).prime, thing)
                self.assertIs(caught(BadPrime, handed_out, thing, 3, 0).prime, thing)

    def test_bad_unknowns_and_sums(self):
        for thing in any_objects():
            if not isinstance(thing, (list, tuple)) or not thing:
                self.assertEqual(caught(BadUnknown, Shares, 5, thing, 3).index, 0)
            if not (isinstance(thing, str) and thing in ("a", "b", "zz", "abc")):
                self.assertEqual(caught(BadUnknown, Shares, 5, ["x", thing, "y"], 3).index, 1)
            if not isinstance(thing, dict) or not thing:
                self.assertIsNone(caught(BadSum, Shares, 5, ["x"], thing).name)
            if not (isinstance(thing, dict) and not thing):
                self.assertEqual(caught(BadSum, Shares, 5, ["x"], {"q": {}, "r": thing, "s": 5}).name, "r")
            if type(thing) is not int:
                self.assertEqual(caught(BadSum, Shares, 5, ["x"], {"q": {}, "r": {"x": thing}}).name, "r")
        self.assertEqual(caught(BadUnknown, Shares, 5, ["x", "y", "x"], {}).index, 2)
        for name in (1, None, True, "", "A", "a" * 41, ("a",)):
            self.assertEqual(caught(BadSum, Shares, 5, ["x"], {"q": {}, name: {}, "s": 5}).name, name)
        self.assertEqual(caught(BadSum, Shares, 5, ["x"], {"q": {"y": 1}}).name, "q")
        self.assertEqual(caught(BadSum, Shares, 5, ["x"], {"q": ({"x": 1}, 5)}).name, "q")


class TestTold(unittest.TestCase):
    def test_worlds(self):
        self.assertEqual(list(FIVE.home()), ["x", "y"])
        self.assertEqual(FIVE.answers(FIVE.home()).keys(), {"a": 1, "b": 1, "c": 1, "no": 1}.keys())
        self.assertEqual(list(FIVE.answers(world={"y": 4, "x": 3}).items()), [("a", 0), ("b", 3), ("c", 1), ("no", 0)])
        for thing in [*any_objects(), {"x": 5, "y": 0}, {"x": -1, "y": 0}, {"x": True, "y": 0}, {"x": 0},
                      {"x": 0, "y": 0, "z": 0}, {"x": 0, "z": 0}]:
            self.assertIs(caught(BadWorld, FIVE.answers, thing).thing, thing)

    def test_drawn(self):
        rng = random.Random(38)
        for _ in range(400):
            shares = drawn_shares(rng)
            known, asked = drawn_names(rng, shares.questions()), rng.choice(shares.questions())
            like = Sums(shares.unknowns(), {name: (shares.row(name), shares.prime) for name in shares.questions()})
            self.assertIs(shares.is_told(known, asked), like.is_told(known, asked))
            plan, pair = shares.plan(known, asked), shares.apart(known, asked)
            self.assertEqual(plan is None, pair is not None)
            self.assertIs(shares.is_told(known, asked), plan is not None)
            if plan is None:
                self.look_at_pair(shares, known, asked, pair)
            else:
                self.look_at_plan(rng, shares, known, asked, plan)
            self.look_at_counts(rng, shares, known, asked)
            one, other = rng.choice(all_worlds(shares)), rng.choice(all_worlds(shares))
            right = all(shares.answers(one)[name] == shares.answers(other)[name] for name in known)
            right = right and shares.answers(one)[asked] != shares.answers(other)[asked]
            self.assertIs(shares.are_apart(known, asked, (one, other)), right)

    def look_at_pair(self, shares, known, asked, pair):
        self.assertIs(type(pair), tuple)
        one, other = shares.answers(pair[0]), shares.answers(pair[1])
        self.assertEqual([one[name] for name in known], [other[name] for name in known])
        self.assertNotEqual(one[asked], other[asked])
        self.assertIs(shares.are_apart(known, asked, list(pair)), True)
        name = shares.unknowns()[0]
        for bent in (pair[:1], (pair[0], pair[0]), (pair[0], {**pair[1], name: pair[1][name] + shares.prime}), 3,
                     (pair[0], {**pair[1], name: True}), (*pair, pair[0]), ({**pair[0], "zz": 0}, pair[1]), ([], pair[1])):
            self.assertIs(shares.are_apart(known, asked, bent), False)

    def look_at_plan(self, rng, shares, known, asked, plan):
        self.assertIs(shares.is_plan(known, asked, plan), True)
        self.assertTrue(plainly_plan(shares, known, asked, plan))
        self.assertEqual(list(plan), [name for name in known if name in plan])
        for world in rng.sample(all_worlds(shares), 2):
            answers = shares.answers(world)
            self.assertEqual(shares.found(known, asked, plan, answers), answers[asked])
            far = {name: answers[name] + shares.prime * rng.randint(-4, 4) for name in known}
            self.assertEqual(shares.found(known, asked, plan, far), answers[asked])
        for name in known:
            for weight in range(-1, shares.prime + 1):
                bent = {**plan, name: weight}
                self.assertIs(shares.is_plan(known, asked, bent), plainly_plan(shares, known, asked, bent))
            bent = {one: plan[one] for one in plan if one != name}
            self.assertIs(shares.is_plan(known, asked, bent), plainly_plan(shares, known, asked, bent))

    def look_at_counts(self, rng, shares, known, asked):
        answers = {name: rng.randrange(shares.prime) for name in known}
        worlds = [world for world in all_worlds(shares)
                  if all(shares.answers(world)[name] == answers[name] for name in known)]
        self.assertEqual(world_count(shares, answers), len(worlds))
        found = [shares.answers(world)[asked] for world in worlds]
        self.assertEqual(spread(shares, answers, asked), [found.count(number) for number in range(shares.prime)])

    def test_found_and_any_objects(self):
        plan = FIVE.plan(["c", "no"], "b")
        self.assertEqual(plan, {"c": 3})
        self.assertEqual(FIVE.found(answers={"c": -4, "no": "x"}, plan=plan, asked="b", known=("c", "no")), 3)
        for bad in ({"c": 1}, {"c": True, "no": 0}, {"c": None, "no": 0}, [], None, {}):
            self.assertIs(caught(BadAnswers, FIVE.found, ["c", "no"], "b", plan, bad).thing, bad)
        field = Shares(2, ["a"], {"a": {"a": 1}, "b": {"a": 3}})
        for thing in any_objects():
            right = isinstance(thing, dict) and list(thing) == ["a"] and type(thing["a"]) is int and thing["a"] == 1
            self.assertIs(field.is_plan(["a"], "b", thing), right, thing)
            self.assertIs(field.are_apart([], "a", thing), False)
            if not right:
                self.assertIs(caught(BadPlan, field.found, ["a"], "b", thing, 3).thing, thing)

    def test_order_of_errors(self):
        calls = [(FIVE.is_told, ()), (FIVE.plan, ()), (FIVE.is_plan, (3,)), (FIVE.found, (3, 3)), (FIVE.apart, ()),
                 (FIVE.are_apart, (3,))]
        for work, rest in calls:
            for thing in any_objects():
                if not isinstance(thing, (list, tuple)):
                    self.assertEqual(caught(BadKnown, work, thing, "zz", *rest).index, 0)
                if thing not in ("a", "b"):
                    self.assertEqual(caught(BadKnown, work, ["c", "no", thing], "zz", *rest).index, 2)
                    self.assertIs(caught(NoQuestion, work, ["c"], thing, *rest).name, thing)
            self.assertEqual(caught(BadKnown, work, ["c", "no", "c"], "zz", *rest).index, 2)


class TestCounts(unittest.TestCase):
    def test_examples(self):
        self.assertEqual(world_count(FIVE, {}), 25)
        self.assertEqual(world_count(answers={"b": 2, "c": 4}, shares=FIVE), 5)
        self.assertEqual(world_count(FIVE, {"b": 2, "c": 3}), 0)
        self.assertEqual(world_count(FIVE, {"no": 1}), 0)
        self.assertEqual(spread(FIVE, {"b": 2}, "c"), [0, 0, 0, 0, 5])
        self.assertEqual(spread(asked="a", answers={"b": 2}, shares=FIVE), [1, 1, 1, 1, 1])
        self.assertEqual(spread(FIVE, {"no": 1}, "a"), [0] * 5)

    def test_errors(self):
        for thing in any_objects():
            good = isinstance(thing, dict) and all(
                key in ("a", "b") and type(thing[key]) is int for key in thing)
            if not good:
                self.assertIs(caught(BadAnswers, world_count, FIVE, thing).thing, thing)
                self.assertIs(caught(BadAnswers, spread, FIVE, thing, "zz").thing, thing)
            if thing not in ("a", "b"):
                self.assertIs(caught(NoQuestion, spread, FIVE, {"no": 1}, thing).name, thing)
        for bad in ({"a": 5}, {"a": -1}, {"a": 1, "zz": 1}, {"a": False}):
            self.assertIs(caught(BadAnswers, world_count, FIVE, bad).thing, bad)
            self.assertIs(caught(BadAnswers, spread, FIVE, bad, "zz").thing, bad)


class TestHandedOut(unittest.TestCase):
    def test_all_small_ones(self):
        for prime in (2, 3, 5, 7, 997):
            for many in range(1, min(prime, 7)):
                holders = ["h" + "abcdefg"[place] for place in range(many)]
                for least in range(1, many + 1):
                    self.look(prime, holders, least)

    def look(self, prime, holders, least):
        shares = handed_out(prime, tuple(holders), least)
        self.assertIsInstance(shares, Shares)
        self.assertEqual(shares.prime, prime)
        self.assertEqual(shares.questions(), ["secret", *holders])
        self.assertEqual(shares.unknowns(), [f"c{place}" for place in range(least)])
        self.assertEqual(shares.row("secret"), {"c0": 1})
        for place, name in enumerate(holders, 1):
            self.assertEqual(shares.row(name), {f"c{power}": place ** power % prime for power in range(least)})
        groups = [group for group in subsets(holders) if len(group) == least]
        self.assertEqual(least_files(shares, "secret"), groups)
        self.assertEqual(len(secrets(shares, "secret")), len([g for g in subsets(holders) if len(g) == least - 1]))
        hands = {name: [name] for name in holders}
        self.assertEqual(least_groups(shares, hands, "secret"), groups)
        self.assertTrue(is_safe(shares, hands, least - 1, "secret"))
        self.assertFalse(is_safe(shares, hands, least, "secret"))

    def test_knowing_fewer_tells_nothing(self):
        shares = handed_out(least=2, holders=["jo", "al", "kay"], prime=5)
        self.assertEqual(spread(shares, {"jo": 3}, "secret"), [1, 1, 1, 1, 1])
        self.assertEqual(sorted(spread(shares, {"jo": 3, "kay": 1}, "secret")), [0, 0, 0, 0, 1])

    def test_errors(self):
        for thing in any_objects():
            if not isinstance(thing, (list, tuple)) or not thing:
                self.assertEqual(caught(BadHolder, handed_out, 5, thing, 0).index, 0)
            if not (isinstance(thing, str) and thing in ("a", "b", "zz", "abc")):
                self.assertEqual(caught(BadHolder, handed_out, 5, ["jo", thing, "al"], 0).index, 1)
        for holders, index in ((["jo", "secret"], 1), (["jo", "al", "jo"], 2), (["jo", "al", "kay", "ida", "bo"], 4),
                               (["jo", "jo", "kay", "ida", "bo"], 1), (["secret"], 0), (["jo", "a" * 41], 1)):
            self.assertEqual(caught(BadHolder, handed_out, 5, holders, 0).index, index)
        self.assertEqual(caught(BadHolder, handed_out, 2, ["jo", "al"], 0).index, 1)
        self.assertEqual(handed_out(5, ["jo", "al", "kay", "ida"], 4).questions()[4], "ida")
        for thing in [*not_integers(), 0, 3]:
            self.assertIs(caught(BadNumber, handed_out, 5, ["jo", "al"], thing).thing, thing)


if __name__ == "__main__":
    unittest.main()
