"""Promises [18] and [19]: hands, against a plain look at all groups."""

import random
import unittest

from tests.helpers import any_objects, caught, drawn_names, drawn_sums, drawn_table, not_integers, subsets
from twoworlds.errors import BadGroup, BadHands, BadNumber, NoHand, NoQuestion
from twoworlds.hands import is_safe, knows, least_groups, may_tell, outsiders
from twoworlds.tables import Table
from twoworlds.views import View

BITS = Table([{"a": x, "b": y, "c": z, "s": x ^ y} for x in (0, 1) for y in (0, 1) for z in (0, 1)])
HANDS = {"kay": ["a"], "jo": ["c"], "al": ["b", "c"], "flo": []}


def drawn_hands(rng, questions):
    names = ["jo", "al", "kay", "flo", "ida", "bo", "cy"]
    return {name: drawn_names(rng, questions)[:2] for name in names[:rng.randint(1, 5)]}


class TestGroups(unittest.TestCase):
    def test_drawn(self):
        rng = random.Random(18)
        for _ in range(150):
            field = drawn_table(rng) if rng.random() < 0.7 else drawn_sums(rng)
            hands = drawn_hands(rng, field.questions())
            asked = rng.choice(field.questions())
            self.look(rng, field, hands, asked)

    def look(self, rng, field, hands, asked):
        before = {name: list(hands[name]) for name in hands}
        names = list(hands)

        def plainly(group):
            return field.is_told(list(dict.fromkeys(q for name in group for q in hands[name])), asked)
        groups = subsets(names)
        for group in groups:
            self.assertIs(knows(field, hands, rng.sample(group, len(group)), asked), plainly(group))
        knowing = [group for group in groups if plainly(group)]
        least = [group for group in knowing if not any(set(less) < set(group) for less in knowing)]
        self.assertEqual(least_groups(field, hands, asked), least)
        out = [group for group in groups if not plainly(group)
               and all(plainly([*group, name]) for name in names if name not in group)]
        out = sorted(out, key=lambda group: [names.index(name) for name in group])
        self.assertEqual(outsiders(field, hands, asked), out)
        for most in range(len(names) + 3):
            safe = not any(plainly(group) for group in groups if len(group) <= most)
            self.assertIs(is_safe(field, hands, most, asked), safe)
        for name in names:
            has = hands[name]
            told = [] if field.is_told(has, asked) else [
                q for q in field.questions() if not field.is_told(has if q in has else [*has, q], asked)]
            self.assertEqual(may_tell(field, hands, name, asked), told)
        self.assertEqual(hands, before)

    def test_seven_hands(self):
        rng = random.Random(19)
        for _ in range(4):
            field = drawn_table(rng, most_rows=20, most_questions=6)
            names = ["h7", "h1", "h6", "h2", "h5", "h3", "h4"]
            hands = {name: drawn_names(rng, field.questions())[:2] for name in names}
            self.look(rng, field, hands, field.questions()[-1])

    def test_examples(self):
        self.assertIs(knows(BITS, HANDS, ["al", "kay"], "s"), True)
        self.assertIs(knows(asked="s", group=("kay", "jo", "flo"), hands=HANDS, field=BITS), False)
        self.assertIs(knows(BITS, HANDS, [], "s"), False)
        self.assertIs(knows(Table([{"a": 1}]), {"jo": []}, [], "a"), True)
        self.assertEqual(least_groups(asked="s", hands=HANDS, field=BITS), [["kay", "al"]])
        self.assertEqual(least_groups(BITS, HANDS, "c"), [["jo"], ["al"]])
        self.assertEqual(least_groups(BITS, {"jo": []}, "c"), [])
        self.assertEqual(least_groups(Table([{"a": 1}]), {"jo": []}, "a"), [[]])
        self.assertEqual(outsiders(asked="s", hands=HANDS, field=BITS), [["kay", "jo", "flo"], ["jo", "al", "flo"]])
        self.assertEqual(outsiders(BITS, {"jo": []}, "c"), [["jo"]])
        self.assertEqual(outsiders(Table([{"a": 1}]), {"jo": []}, "a"), [])
        self.assertEqual(may_tell(asked="s", name="kay", hands=HANDS, field=BITS), ["a", "c"])
        self.assertEqual(may_tell(BITS, HANDS, "flo", "s"), ["a", "b", "c"])
        self.assertEqual(may_tell(BITS, HANDS, "jo", "c"), [])
        self.assertIs(is_safe(asked="s", most=1, hands=HANDS, field=BITS), True)
        self.assertIs(is_safe(BITS, HANDS, 2, "s"), False)
        self.assertIs(is_safe(BITS, HANDS, 10 ** 15, "s"), False)
        self.assertIs(is_safe(BITS, {"jo": ("a", "c")}, 10 ** 15, "s"), True)
        self.assertIs(is_safe(Table([{"a": 1}]), {"jo": []}, 0, "a"), False)
        view = View(BITS, {"x": "a", "y": "b", "xx": "a", "t": "s"})
        self.assertEqual(least_groups(view, {"p": ["x"], "q": ["xx"], "r": ["y"]}, "t"), [["p", "r"], ["q", "r"]])

    def test_new_each_time(self):
        told = least_groups(BITS, HANDS, "s")
        told[0].append("x")
        told.clear()
        outsiders(BITS, HANDS, "s")[0].clear()
        may_tell(BITS, HANDS, "kay", "s").clear()
        self.assertEqual(least_groups(BITS, HANDS, "s"), [["kay", "al"]])
        self.assertEqual(may_tell(BITS, HANDS, "kay", "s"), ["a", "c"])
        self.assertEqual(HANDS["kay"], ["a"])


class TestErrors(unittest.TestCase):
    def test_bad_hands(self):
        calls = [(knows, (5, "zz")), (least_groups, ("zz",)), (outsiders, ("zz",)), (may_tell, ("zz", "zz")),
                 (is_safe, (-1, "zz"))]
        for work, rest in calls:
            for thing in any_objects():
                if not isinstance(thing, dict) or not thing:
                    self.assertIsNone(caught(BadHands, work, BITS, thing, *rest).name)
                good = isinstance(thing, (list, tuple)) and all(
                    isinstance(q, str) and q in ("a", "b", "c", "s") for q in thing) and len(set(thing)) == len(thing)
                if not good:
                    hands = {"jo": [], "kay": thing, 5: 5}
                    self.assertEqual(caught(BadHands, work, BITS, hands, *rest).name, "kay")
            for name in (5, None, False, "", "A", "a" * 41, ("jo",), "j o"):
                self.assertEqual(caught(BadHands, work, BITS, {"jo": [], name: [], "al": 5}, *rest).name, name)
            self.assertEqual(caught(BadHands, work, BITS, {"jo": ["a", "b", "a"]}, *rest).name, "jo")

    def test_behind_hands(self):
        for thing in any_objects():
            if thing not in list(HANDS):
                self.assertIs(caught(NoHand, may_tell, BITS, HANDS, thing, "zz").name, thing)
                self.assertEqual(caught(BadGroup, knows, BITS, HANDS, ["jo", thing], "zz").index, 1)
            if not isinstance(thing, (list, tuple)):
                self.assertEqual(caught(BadGroup, knows, BITS, HANDS, thing, "zz").index, 0)
            if thing not in ("a", "b", "c", "s"):
                self.assertIs(caught(NoQuestion, knows, BITS, HANDS, ["jo"], thing).name, thing)
                self.assertIs(caught(NoQuestion, least_groups, BITS, HANDS, thing).name, thing)
                self.assertIs(caught(NoQuestion, outsiders, BITS, HANDS, thing).name, thing)
                self.assertIs(caught(NoQuestion, may_tell, BITS, HANDS, "jo", thing).name, thing)
                self.assertIs(caught(NoQuestion, is_safe, BITS, HANDS, 1, thing).name, thing)
        self.assertEqual(caught(BadGroup, knows, BITS, HANDS, ["jo", "al", "jo"], "zz").index, 2)
        for thing in not_integers():
            self.assertIs(caught(BadNumber, is_safe, BITS, HANDS, thing, "zz").thing, thing)


if __name__ == "__main__":
    unittest.main()
