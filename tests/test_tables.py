"""Promises [10] to [13] of tables, [21] and [22]."""

import random
import unittest

from tests.helpers import any_objects, caught, drawn_names, drawn_table, plainly_told, subsets
from twoworlds.errors import BadAnswers, BadKnown, BadPlan, BadRow, BadWorld, NoQuestion, UnlikeQuestions
from twoworlds.tables import Table

ROWS = [{"a": 0, "b": 0, "c": 5}, {"c": 6, "b": 1, "a": 0}, {"b": 1, "a": 1, "c": 5}, {"a": 0, "b": 0, "c": 5}]


def plain_plan(rows, known, asked):
    return {tuple(row[name] for name in known): row[asked] for row in rows}


class TestRows(unittest.TestCase):
    def test_order_and_equal_rows(self):
        table = Table(ROWS)
        self.assertEqual(table.questions(), ["a", "b", "c"])
        self.assertEqual(len(table), 4)
        self.assertEqual(table.rows(), ROWS)
        for row in table.rows():
            self.assertEqual(list(row), ["a", "b", "c"])
        self.assertEqual(Table(rows=tuple(ROWS)).rows(), ROWS)
        self.assertEqual(Table([{"z": 1, "a": 2}, {"a": 3, "z": 4}]).questions(), ["z", "a"])
        self.assertEqual(len(Table([{"q": -3}])), 1)

    def test_copies(self):
        rows = [{"a": 1}, {"a": 2}]
        table = Table(rows)
        rows[0]["a"] = 9
        rows.append({"a": 3})
        self.assertEqual(table.rows(), [{"a": 1}, {"a": 2}])
        told = table.rows()
        told[0]["a"] = 7
        told.clear()
        table.questions().append("x")
        table.home()["a"] = 8
        table.answers({"a": 1})["a"] = 8
        table.plan(["a"], "a")[(1,)] = 8
        table.apart([], "a")[0]["a"] = 8
        self.assertEqual(table.rows(), [{"a": 1}, {"a": 2}])
        self.assertEqual(table.questions(), ["a"])
        self.assertEqual(table.plan(["a"], "a"), {(1,): 1, (2,): 2})
        self.assertTrue(table.are_apart([], "a", table.apart([], "a")))

    def test_bad_rows(self):
        for thing in any_objects():
            if not isinstance(thing, (list, tuple)) or not thing:
                with self.subTest(thing=thing):
                    self.assertEqual(caught(BadRow, Table, thing).index, 0)
        good = {"a": 1}
        for thing in any_objects():
            if not (isinstance(thing, dict) and list(thing) == ["a"] and type(thing["a"]) is int):
                with self.subTest(thing=thing):
                    self.assertEqual(caught(BadRow, Table, [thing]).index, 0)
                    self.assertEqual(caught(BadRow, Table, [good, good, thing, 5]).index, 2)
        self.assertEqual(caught(BadRow, Table, [good, {"b": 1}]).index, 1)
        self.assertEqual(caught(BadRow, Table, [good, {"a": 1, "b": 1}]).index, 1)
        self.assertEqual(caught(BadRow, Table, [{"a": 1, "b": 1}, good]).index, 1)
        self.assertEqual(caught(BadRow, Table, [{"a": 1, "B": 1}]).index, 0)
        self.assertEqual(caught(BadRow, Table, [{"a": False}]).index, 0)
        self.assertEqual(caught(BadRow, Table, [{"a": 0}, {"a": False}]).index, 1)
        self.assertEqual(caught(BadRow, Table, [{}, {}]).index, 0)

    def test_names(self):
        for name in ("a" * 40, "a.b", "0", ".", "abcdefghijklmnopqrstuvwxyz0123456789"):
            self.assertEqual(Table([{name: 1}]).questions(), [name])
        for name in ("a" * 41, "", "A", "a_b", "a b", "a\n", "\xe9", "\u0663", 1, None, ("a",)):
            self.assertEqual(caught(BadRow, Table, [{name: 1}]).index, 0)

    def test_equality(self):
        table = Table(ROWS)
        self.assertTrue(table == Table(list(ROWS)))
        self.assertFalse(table != Table(list(ROWS)))
        self.assertFalse(table == Table(ROWS[::-1]))
        self.assertFalse(table == Table(ROWS[:3]))
        self.assertFalse(table == Table([{name: row[name] for name in "cba"} for row in ROWS]))
        self.assertTrue(Table([{"a": 1, "b": 2}]) == Table([{"a": 1, "b": 2}]))
        self.assertFalse(Table([{"a": 1, "b": 1}]) == Table([{"b": 1, "a": 1}]))
        for thing in [*any_objects(), ROWS, table.rows()]:
            if not isinstance(thing, Table):
                self.assertFalse(table == thing)
                self.assertTrue(table != thing)

    def test_sum(self):
        one, other = Table(ROWS[:2]), Table([{name: row[name] for name in "abc"} for row in ROWS[1:]])
        self.assertIsNotNone(caught(UnlikeQuestions, lambda: one + Table(ROWS[1:])))
        both = one + other
        self.assertEqual(both.rows(), ROWS[:2] + ROWS[1:])
        self.assertEqual((len(one), len(other)), (2, 3))
        for rows in ([{"a": 1, "b": 1}], [{"b": 1, "a": 1, "c": 1}], [{"a": 1, "b": 1, "c": 1, "d": 1}]):
            self.assertIsNotNone(caught(UnlikeQuestions, lambda: one + Table(rows)))
        self.assertEqual(one.rows(), ROWS[:2])


class TestWorlds(unittest.TestCase):
    def test_home_and_answers(self):
        table = Table(ROWS)
        self.assertIn(table.home(), ROWS)
        answers = table.answers(world={"c": 6, "b": 1, "a": 0})
        self.assertEqual(answers, {"a": 0, "b": 1, "c": 6})
        self.assertEqual(list(answers), ["a", "b", "c"])
        table = Table([{"a": 1}, {"a": 0}])
        for thing in any_objects():
            if thing == {"a": 1} and type(thing["a"]) is int:
                self.assertEqual(table.answers(thing), thing)
            else:
                self.assertIs(caught(BadWorld, table.answers, thing).thing, thing)
        for thing in ({"a": 2}, {"a": False}, {"a": True}, {"a": 1, "b": 1}, {"b": 1}, {}):
            self.assertIs(caught(BadWorld, table.answers, thing).thing, thing)


class TestTold(unittest.TestCase):
    def test_drawn(self):
        rng = random.Random(21)
        for _ in range(150):
            table = drawn_table(rng)
            rows = table.rows()
            for known in subsets(table.questions()):
                known = rng.sample(known, len(known))
                for asked in table.questions():
                    self.look(rng, table, rows, known, asked)

    def look(self, rng, table, rows, known, asked):
        told = plainly_told(rows, known, asked)
        self.assertIs(table.is_told(known, asked), told)
        plan, pair = table.plan(known, asked), table.apart(known, asked)
        self.assertEqual(plan is None, not told)
        self.assertEqual(pair is None, told)
        if told:
            self.assertEqual(plan, plain_plan(rows, known, asked))
            self.assertIs(table.is_plan(tuple(known), asked, plan), True)
            for row in rows:
                self.assertEqual(table.found(known, asked, plan, row), row[asked])
        else:
            self.assertIs(type(pair), tuple)
            self.assertIs(table.are_apart(known, asked, pair), True)
            self.assertIs(table.are_apart(known, asked, list(pair)), True)
            self.assertFalse(table.is_plan(known, asked, plain_plan(rows, known, asked)))
        pair = (dict(rng.choice(rows)), dict(rng.choice(rows)))
        apart = all(pair[0][name] == pair[1][name] for name in known) and pair[0][asked] != pair[1][asked]
        self.assertIs(table.are_apart(known, asked, pair), apart)
        self.assertFalse(table.are_apart(known, asked, pair + pair))

    def test_bent_plans(self):
        table = Table(ROWS)
        plan = table.plan(["b", "a"], "c")
        self.assertEqual(plan, {(0, 0): 5, (1, 0): 6, (1, 1): 5})
        for bent in ({**plan, (0, 1): 5}, {**plan, (0, 0): 6}, {(0, 0): 5, (1, 0): 6}, {(0, 0): 5, (1, 0): 6, (2, 1): 5},
                     {(0, 0): 5, (1, 0): 6, (1, True): 5}, {(0, 0): 5, (1, 0): 6, (True, 1): 5}, {}, None,
                     {(0, 0): 5, (1, 0): 6, "x": 5}, {(0, 0): 5, (1, 0): 6, (1, 1, 1): 5}, list(plan)):
            self.assertIs(table.is_plan(["b", "a"], "c", bent), False)
            self.assertIs(caught(BadPlan, table.found, ["b", "a"], "c", bent, 3).thing, bent)
        table = Table([{"a": 1, "b": 1}])
        self.assertTrue(table.is_plan(["a"], "b", {(1,): 1}))
        self.assertFalse(table.is_plan(["a"], "b", {(1,): True}))
        self.assertFalse(table.is_plan(["a"], "b", {(True,): 1}))
        for thing in any_objects():
            right = isinstance(thing, dict) and list(thing) == [()]
            self.assertIs(Table([{"a": 0}]).is_plan([], "a", thing), right, thing)

    def test_bent_pairs(self):
        table = Table([{"a": 0, "b": 0}, {"a": 0, "b": 1}, {"a": 1, "b": 1}])
        good = ({"a": 0, "b": 0}, {"b": 1, "a": 0})
        self.assertTrue(table.are_apart(["a"], "b", good))
        self.assertTrue(table.are_apart(["a"], "b", good[::-1]))
        for bent in (good[:1], good + good[:1], (good[0], good[0]), (good[0], {"a": 1, "b": 1}), (good[0], {"b": 1}),
                     ({"a": 0, "b": 0}, {"a": False, "b": 1}), ({"a": 0, "b": 0}, {"a": 0, "b": True}),
                     ({"a": 1, "b": 0}, {"a": 1, "b": 1}), (good[0], None), {0: good[0], 1: good[1]}):
            self.assertIs(table.are_apart(["a"], "b", bent), False)
        for thing in any_objects():
            self.assertIs(table.are_apart(["a"], "b", thing), False)

    def test_found(self):
        table = Table(ROWS)
        plan = table.plan(["a", "b"], "c")
        self.assertEqual(table.found(answers={"a": 0, "b": 1, "zz": []}, plan=plan, asked="c", known=("a", "b")), 6)
        for bad in ({"a": 0}, {"a": 1, "b": 0}, {"a": 0, "b": 7}, {"a": 0, "b": True}, {"a": [], "b": 1}, {},
                    [0, 1], None, {"a": None, "b": 1}, {"a": (0,), "b": {}}):
            self.assertIs(caught(BadAnswers, table.found, ["a", "b"], "c", plan, bad).thing, bad)
        plan = table.plan(["c", "b"], "c")
        self.assertEqual(table.found(["c", "b"], "c", plan, {"c": 6, "b": 1}), 6)
        nothing = Table([{"a": 4}, {"a": 4}])
        self.assertEqual(nothing.found([], "a", {(): 4}, {}), 4)
        self.assertIsNotNone(caught(BadAnswers, nothing.found, [], "a", {(): 4}, []))

    def test_order_of_errors(self):
        table = Table(ROWS)
        calls = [(table.is_told, ()), (table.plan, ()), (table.is_plan, (3,)), (table.found, (3, 3)),
                 (table.apart, ()), (table.are_apart, (3,))]
        for work, rest in calls:
            for thing in any_objects():
                if not isinstance(thing, (list, tuple)):
                    self.assertEqual(caught(BadKnown, work, thing, "zz", *rest).index, 0)
                if thing not in ("a", "b", "c"):
                    self.assertEqual(caught(BadKnown, work, ["b", "a", thing], "zz", *rest).index, 2)
                    self.assertIs(caught(NoQuestion, work, ["b"], thing, *rest).name, thing)
            self.assertEqual(caught(BadKnown, work, ["b", "a", "b", "zz"], "zz", *rest).index, 2)
        self.assertEqual(caught(BadPlan, table.found, ["a"], "b", 3, 4).thing, 3)
        self.assertEqual(caught(BadAnswers, table.found, ["a"], "a", {(0,): 0, (1,): 1}, 4).thing, 4)


class TestLeft(unittest.TestCase):
    def test_drawn(self):
        rng = random.Random(22)
        for _ in range(200):
            table = drawn_table(rng)
            rows = table.rows()
            answers = {name: rng.randint(-1, 1) for name in drawn_names(rng, table.questions())}
            before = dict(answers)
            left = [at for at, row in enumerate(rows) if all(row[name] == answers[name] for name in answers)]
            self.assertEqual(table.left(answers), left)
            for asked in table.questions():
                self.assertEqual(table.may_be(answers, asked), sorted({rows[at][asked] for at in left}))
            self.assertEqual(answers, before)
        self.assertEqual(Table(ROWS).left({}), [0, 1, 2, 3])
        self.assertEqual(Table(ROWS).left(answers={"c": 7}), [])
        self.assertEqual(Table(ROWS).may_be(asked="a", answers={"c": 7}), [])

    def test_bad_answers(self):
        table = Table(ROWS)
        for thing in any_objects():
            good = isinstance(thing, dict) and all(key in ("a", "b", "c") and type(thing[key]) is int for key in thing)
            if not good:
                self.assertIs(caught(BadAnswers, table.left, thing).thing, thing)
                self.assertIs(caught(BadAnswers, table.may_be, thing, "zz").thing, thing)
            if thing not in ("a", "b", "c"):
                self.assertIs(caught(NoQuestion, table.may_be, {"a": 0}, thing).name, thing)

    def test_only(self):
        table = Table(ROWS)
        one = table.only(("c", "a"))
        self.assertEqual(one.questions(), ["c", "a"])
        self.assertEqual(one.rows(), [{name: row[name] for name in "ca"} for row in ROWS])
        self.assertEqual(table.only(["a", "b", "c"]), table)
        for thing in any_objects():
            if thing not in (["a"], ("a", "b")):
                self.assertIsNotNone(caught(BadKnown, table.only, thing))
        for names, index in (([], 0), ((), 0), ("ab", 0), (["a", "a"], 1), (["a", "b", 3], 2)):
            self.assertEqual(caught(BadKnown, table.only, names).index, index)

    def test_fewer_rows_tell_no_less(self):
        rng = random.Random(23)
        for _ in range(100):
            table = drawn_table(rng)
            some = rng.sample(table.rows(), rng.randint(1, len(table)))
            known = drawn_names(rng, table.questions())
            for asked in table.questions():
                if table.is_told(known, asked):
                    self.assertTrue(Table(some).is_told(known, asked))


if __name__ == "__main__":
    unittest.main()
