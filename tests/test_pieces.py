"""Promises [55] to [57], and the example of [62]."""

import random
import unittest
from fractions import Fraction
from itertools import product
from math import gcd, lcm

from tests.helpers import any_objects, caught, drawn_names
from tests.test_rings import plain_numbers, strings
from twoworlds.engine import told_by
from twoworlds.errors import BadAnswers, BadKnown, BadLetters, BadPiece, BadPlan, BadWorld, NoQuestion
from twoworlds.pieces import Pieces

FIELD = Pieces("ab", ["a", "ab", "aa", "bab", "b"])


def drawn_pieces(rng, most=7, longest=3):
    letters = "".join(rng.sample("cabz", rng.choice((1, 2, 2, 2, 3))))
    names = [word for many in range(1, rng.randint(1, longest) + 1) for word in strings(letters, many)]
    return Pieces(letters, rng.sample(names, rng.randint(1, min(most, len(names)))))


def some_rings(letters):
    """Rings among which are, for each way round the steps of words of two letters, one more and one less."""
    longest = {1: 5, 2: 9, 3: 6}[len(letters)]
    return [ring for many in range(1, longest + 1) for ring in strings(letters, many)]


def plainly_plan(rings, asked, thing):
    """A plan by its rule, looked at in many rings, of dicts of known pieces to fractions."""
    bottom = lcm(*[under for _, under in thing.values()])
    weights = {name: int(Fraction(*thing[name]) * bottom) for name in thing}
    return 0 not in weights.values() and all(
        sum(weights[name] * world[name] for name in thing) == bottom * world[asked] for world in rings)


class TestMaking(unittest.TestCase):
    def test_making(self):
        pieces = ["b", "ab", "bba"]
        field = Pieces(letters="ba", pieces=pieces)
        pieces.append("a")
        field.questions().clear()
        self.assertEqual((field.questions(), field.letters()), (["b", "ab", "bba"], "ba"))
        self.assertTrue(field == Pieces("ba", ("b", "ab", "bba")))
        self.assertFalse(field != Pieces("ba", ("b", "ab", "bba")))
        for other in (Pieces("ab", ["b", "ab", "bba"]), Pieces("ba", ["ab", "b", "bba"]), Pieces("ba", ["b", "ab"]),
                      Pieces("bac", ["b", "ab", "bba"])):
            self.assertFalse(field == other)
        for thing in any_objects():
            self.assertFalse(field == thing)

    def test_bad_letters(self):
        for thing in [*any_objects(), "aa", "aba", "abcd", "A", "aB", "a ", "a1", ".", ["a"], ("a", "b"), {"a": 1}]:
            if not isinstance(thing, str) or thing not in ("a", "b", "abc"):
                self.assertIs(caught(BadLetters, Pieces, thing, 3).thing, thing)

    def test_bad_pieces(self):
        for thing in any_objects():
            if not isinstance(thing, (list, tuple)) or not thing:
                self.assertEqual(caught(BadPiece, Pieces, "abc", thing).index, 0)
            if thing not in ("a", "b", "abc"):
                self.assertEqual(caught(BadPiece, Pieces, "abc", ["c", "cc", thing, "a", 3]).index, 2)
        for pieces, index in ((["a", "b", "a"], 2), (["abab"], 0), (["ab", "c"], 1), ([""], 0), (["a", ["b"]], 1),
                              (["a", ("a", "b")], 1), (["A"], 0)):
            self.assertEqual(caught(BadPiece, Pieces, "ab", pieces).index, index)
        self.assertEqual(caught(BadPiece, Pieces, "ab", "ab").index, 0)


class TestWorlds(unittest.TestCase):
    def test_answers(self):
        field = Pieces("ab", ["b", "aa", "ab", "ba", "a", "aaa", "bab"])
        self.assertEqual(list(field.answers(world="aab").items()),
                         [("b", 1), ("aa", 1), ("ab", 1), ("ba", 1), ("a", 2), ("aaa", 0), ("bab", 0)])
        self.assertEqual(field.answers("a"), {"b": 0, "aa": 1, "ab": 0, "ba": 0, "a": 1, "aaa": 1, "bab": 0})
        self.assertEqual(field.answers("ab")["bab"], 1)
        self.assertEqual(list(field.answers(field.home())), field.questions())
        self.assertEqual(len(Pieces("z", ["z"]).answers(Pieces("z", ["z"]).home())), 1)
        for ring in strings("ab", 5):
            answers = field.answers(ring)
            for piece in answers:
                self.assertEqual(answers[piece], plain_numbers(ring, len(piece))[piece])
        for thing in [*any_objects(), "abc", "c", "", "AB", ["a", "b"], ("a",), "a b", b"a"]:
            if not isinstance(thing, str) or thing not in ("a", "b"):
                self.assertIs(caught(BadWorld, field.answers, thing).thing, thing)


class TestTold(unittest.TestCase):
    def test_examples(self):
        self.assertEqual(FIELD.plan(["a", "aa"], "ab"), {"a": (1, 1), "aa": (-1, 1)})
        self.assertEqual(list(FIELD.plan(["aa", "a"], "ab")), ["aa", "a"])
        self.assertIsNone(FIELD.plan(["a", "b"], "ab"))
        self.assertIs(FIELD.are_apart(["a", "b"], "ab", ("abab", "aabb")), True)
        self.assertIs(FIELD.are_apart(thing=["aabb", "baba"], asked="ab", known=("b", "a")), True)
        self.assertIs(FIELD.is_told(["aa"], "a"), False)
        self.assertEqual(Pieces("a", ["a", "aaa"]).plan(["aaa"], "a"), {"aaa": (1, 1)})
        self.assertIs(Pieces("a", ["a", "aaa"]).is_told([], "a"), False)
        self.assertEqual(Pieces("ab", ["ab", "ba"]).plan(["ba"], "ab"), {"ba": (1, 1)})
        field = Pieces("abc", ["ab", "ba", "bc", "cb", "ac", "ca"])
        self.assertEqual(field.plan(["ab", "ac", "ba"], "ca"), {"ab": (1, 1), "ac": (1, 1), "ba": (-1, 1)})
        self.assertEqual(told_by(field, ["ab", "ac", "ba"]), ["ab", "ba", "ac", "ca"])
        # a stands as often as ab and aa, so twice as often as half of both.
        self.assertIs(FIELD.is_plan(["a", "ab", "aa"], "a", {"a": (1, 2), "ab": (1, 2), "aa": (2, 4)}), True)

    def test_drawn(self):
        rng = random.Random(57)
        for _ in range(300):
            field = drawn_pieces(rng)
            rings = [field.answers(ring) for ring in some_rings(field.letters())]
            rings = list({tuple(answers.values()): answers for answers in rings}.values())
            for _ in range(3):
                known, asked = drawn_names(rng, field.questions()), rng.choice(field.questions())
                plan, pair = field.plan(known, asked), field.apart(known, asked)
                self.assertEqual(plan is None, pair is not None)
                self.assertIs(field.is_told(known, asked), plan is not None)
                if plan is None:
                    self.look_at_pair(field, known, asked, pair)
                    self.assertIs(field.is_plan(known, asked, {}), False)
                else:
                    self.look_at_plan(rng, field, rings, known, asked, plan)
                self.look_at_pairs(rng, field, known, asked)

    def look_at_pair(self, field, known, asked, pair):
        self.assertIs(type(pair), tuple)
        one, other = field.answers(pair[0]), field.answers(pair[1])
        self.assertEqual([one[name] for name in known], [other[name] for name in known])
        self.assertNotEqual(one[asked], other[asked])
        self.assertIs(field.are_apart(known, asked, pair), True)
        self.assertIs(field.are_apart(known, asked, list(pair)[::-1]), True)
        for bent in (pair[:1], (*pair, pair[0]), (pair[0], pair[0]), (pair[0], None), (pair[0], ""), pair[0],
                     (pair[0], pair[1] + "q"), (pair[0], list(pair[1]))):
            self.assertIs(field.are_apart(known, asked, bent), False)

    def look_at_pairs(self, rng, field, known, asked):
        for _ in range(4):
            pair = ["".join(rng.choice(field.letters()) for _ in range(rng.randint(1, 6))) for _ in "12"]
            one, other = field.answers(pair[0]), field.answers(pair[1])
            right = all(one[name] == other[name] for name in known) and one[asked] != other[asked]
            self.assertIs(field.are_apart(known, asked, pair), right)

    def look_at_plan(self, rng, field, rings, known, asked, plan):
        self.assertEqual(list(plan), [name for name in known if name in plan])
        for weight in plan.values():
            self.assertTrue(type(weight) is tuple and weight[0] != 0 and weight[1] >= 1 and gcd(*weight) == 1)
        for other in (plan, {name: [3 * part for part in plan[name]] for name in list(plan)[::-1]}):
            self.assertIs(field.is_plan(known, asked, other), True)
            self.assertTrue(plainly_plan(rings, asked, other))
            for answers in rng.choices(rings, k=5):
                told = field.found(known, asked, other, {name: answers[name] for name in known})
                self.assertEqual((type(told), told), (int, answers[asked]))
        for name in known:
            for weight in ((1, 1), (1, 2), (0, 1), (-1, 1), (0, 7)):
                bent = {**plan, name: weight}
                self.assertIs(field.is_plan(known, asked, bent), plainly_plan(rings, asked, bent))
            for weight in ((1, 0), (-1, -1), (True, 1), (1, True), 1, None, (1,), (1, 1, 1), "11", {1: 1}):
                self.assertIs(field.is_plan(known, asked, {**plan, name: weight}), False)
            bent = {one: plan[one] for one in plan if one != name}
            self.assertIs(field.is_plan(known, asked, bent), plainly_plan(rings, asked, bent))
        for name in ("zzzz", 5, None, *[name for name in field.questions() if name not in known][:1]):
            self.assertIs(field.is_plan(known, asked, {**plan, name: (1, 1)}), False)

    def test_all_subsets_of_some(self):
        for letters, pieces in (("ab", ["a", "b", "aa", "ab", "ba", "bb"]), ("ab", ["aab", "aba", "bab", "ab", "abb"]),
                                ("abc", ["a", "ab", "bc", "ca", "cc"])):
            field = Pieces(letters, pieces)
            rings = [field.answers(ring) for ring in some_rings(letters)]
            for row in product((0, 1), repeat=len(pieces)):
                known = [name for name, here in zip(pieces, row) if here]
                for asked in pieces:
                    # Where no plan is, rings of few letters part already.
                    seen = {}
                    right = all(seen.setdefault(tuple(world[name] for name in known), world[asked]) == world[asked]
                                for world in rings)
                    self.assertIs(field.is_told(known, asked), right, (known, asked))

    def test_pairs_with_much_less(self):
        # The second ring has two less of a piece where it has one more of others.
        for letters, known, asked in (("cb", ["c"], "bcc"), ("ca", ["ccc", "acc", "a"], "ac"),
                                      ("bz", ["bbb", "z", "zbb"], "b"), ("czb", ["z", "cbz"], "zz")):
            field = Pieces(letters, [asked, *known, 3 * letters[-1]])
            self.look_at_pair(field, known, asked, field.apart(known, asked))

    def test_any_objects(self):
        field = Pieces("a", ["a", "aa"])
        for thing in any_objects():
            self.assertIs(field.is_plan(["a"], "aa", thing), False)
            self.assertIs(field.are_apart([], "a", thing), False)
            self.assertIs(caught(BadPlan, field.found, ["a"], "aa", thing, 3).thing, thing)
        self.assertIs(field.is_plan(["a"], "aa", {"a": [1, 1]}), True)

    def test_found(self):
        known, half = ["a", "ab", "aa"], {"a": (1, 2), "ab": (1, 2), "aa": (1, 2)}
        self.assertEqual(FIELD.found(known, "a", half, {"a": 3, "ab": 1, "aa": 2}), 3)
        self.assertEqual(FIELD.found(known, "a", half, {"a": 3, "ab": 1, "aa": 1}), (5, 2))
        self.assertEqual(FIELD.found(known, "a", half, {"a": 0, "ab": 1, "aa": 0, "b": -1}), (1, 2))
        told = FIELD.found(answers={"a": 3, "ab": 1, "aa": 0}, plan=half, asked="a", known=known)
        self.assertEqual((told, type(told)), (2, int))
        self.assertEqual(FIELD.found(["a", "aa"], "ab", {"a": (1, 1), "aa": (-2, 2)}, {"a": 1, "aa": 5}), -4)
        for bad in ([], None, {}, {"a": 3, "aa": 2}, {"a": 3, "aa": 2, "ab": -1}, {"a": 3, "aa": 2, "ab": True},
                    {"a": 3, "aa": 2, "ab": None}, {"a": 3, "aa": 2, "ab": (1, 1)}, {"a": 3, "aa": "2", "ab": 1}):
            self.assertIs(caught(BadAnswers, FIELD.found, known, "a", half, bad).thing, bad)
            # Known ones that the plan does not use have to be told, too.
            self.assertIs(caught(BadAnswers, FIELD.found, known, "a", {"a": (1, 1)}, bad).thing, bad)

    def test_order_of_errors(self):
        for work, rest in [(FIELD.is_told, ()), (FIELD.plan, ()), (FIELD.is_plan, (3,)), (FIELD.found, (3, 3)),
                           (FIELD.apart, ()), (FIELD.are_apart, (3,))]:
            for thing in any_objects():
                if not isinstance(thing, (list, tuple)):
                    self.assertEqual(caught(BadKnown, work, thing, "zz", *rest).index, 0)
                if thing not in ("a", "b"):
                    self.assertEqual(caught(BadKnown, work, ["aa", "ab", thing], "zz", *rest).index, 2)
                    self.assertIs(caught(NoQuestion, work, ["aa"], thing, *rest).name, thing)
            self.assertEqual(caught(BadKnown, work, ["aa", "ab", "aa"], "zz", *rest).index, 2)
            self.assertEqual(caught(BadKnown, work, ["ba"], "zz", *rest).index, 0)


if __name__ == "__main__":
    unittest.main()
