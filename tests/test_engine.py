"""Promises [14] to [17]: what files tell, against a plain look at all pairs of rows and all files."""

import random
import unittest

from tests.helpers import any_objects, caught, drawn_names, drawn_table, plainly_told, subsets
from twoworlds.engine import idle, is_closed, least_files, needed, needless, secrets, thinned, told_by
from twoworlds.errors import BadKnown, NoQuestion
from twoworlds.tables import Table
from twoworlds.views import View

OF_FILES = (least_files, secrets, needed, idle)


def plain_least(rows, asked, of):
    telling = [file for file in subsets(of) if plainly_told(rows, file, asked)]
    return [file for file in telling if not any(set(less) < set(file) for less in telling)]


def plain_secrets(rows, asked, of):
    out = [file for file in subsets(of) if not plainly_told(rows, file, asked)
           and all(plainly_told(rows, [*file, name], asked) for name in of if name not in file)]
    return sorted(out, key=lambda file: [of.index(name) for name in file])


class TestKnown(unittest.TestCase):
    def test_drawn(self):
        rng = random.Random(14)
        for _ in range(300):
            table = drawn_table(rng)
            rows, known = table.rows(), drawn_names(rng, table.questions())
            before = list(known)
            told = [name for name in table.questions() if plainly_told(rows, known, name)]
            self.assertEqual(told_by(table, known), told)
            self.assertTrue(set(known) <= set(told))
            self.assertIs(is_closed(table, tuple(known)), set(told) == set(known))
            self.assertTrue(is_closed(table, told))
            for asked in table.questions():
                self.look_at_needless(table, rows, known, asked)
            self.assertEqual(known, before)

    def look_at_needless(self, table, rows, known, asked):
        if not plainly_told(rows, known, asked):
            self.assertEqual(needless(table, known, asked), [])
            self.assertIsNone(thinned(table, known, asked))
            return
        spare = [name for name in known if plainly_told(rows, [n for n in known if n != name], asked)]
        self.assertEqual(needless(table, known, asked), spare)
        left = list(known)
        for name in known[::-1]:
            if plainly_told(rows, [n for n in left if n != name], asked):
                left.remove(name)
        self.assertEqual(thinned(table, tuple(known), asked), left)

    def test_examples(self):
        table = Table([{"a": x, "b": y, "c": x, "s": (x + y) % 2} for x in (0, 1) for y in (0, 1)])
        self.assertEqual(told_by(table, ["s", "b"]), ["a", "b", "c", "s"])
        self.assertEqual(told_by(known=[], field=table), [])
        self.assertIs(is_closed(table, []), True)
        self.assertIs(is_closed(known=["a"], field=table), False)
        self.assertEqual(needless(table, ["c", "b", "a"], "s"), ["c", "a"])
        self.assertEqual(thinned(table, ["c", "b", "a"], "s"), ["c", "b"])
        self.assertEqual(thinned(asked="s", known=["a", "b", "c"], field=table), ["a", "b"])
        self.assertEqual(thinned(table, ["a", "s", "b"], "s"), ["s"])
        self.assertEqual(thinned(table, ["a", "b", "s"], "s"), ["a", "b"])
        self.assertEqual(thinned(Table([{"a": 1, "b": 2}]), ["a"], "b"), [])
        self.assertEqual(needless(Table([{"a": 1, "b": 2}]), ["a"], "b"), ["a"])

    def test_errors(self):
        table = Table([{"a": 0, "b": 0}, {"a": 1, "b": 0}])
        for work in (told_by, is_closed):
            for thing in any_objects():
                if not isinstance(thing, (list, tuple)):
                    self.assertEqual(caught(BadKnown, work, table, thing).index, 0)
                if thing not in ("a", "b"):
                    self.assertEqual(caught(BadKnown, work, table, ["b", thing]).index, 1)
            self.assertEqual(caught(BadKnown, work, table, ["b", "a", "b"]).index, 2)
        for work in (needless, thinned):
            for thing in any_objects():
                if not isinstance(thing, (list, tuple)):
                    self.assertEqual(caught(BadKnown, work, table, thing, "zz").index, 0)
                if thing not in ("a", "b"):
                    self.assertEqual(caught(BadKnown, work, table, ["b", thing], thing).index, 1)
                    self.assertIs(caught(NoQuestion, work, table, ["b", "a"], thing).name, thing)


class TestFiles(unittest.TestCase):
    def test_drawn(self):
        rng = random.Random(16)
        for _ in range(250):
            table = drawn_table(rng)
            rows, questions = table.rows(), table.questions()
            asked = rng.choice(questions)
            for of in (None, drawn_names(rng, questions), rng.sample(questions, len(questions)), [], [asked]):
                self.look(table, rows, asked, of)

    def look(self, table, rows, asked, of):
        names = [name for name in table.questions() if name != asked] if of is None else list(of)
        least, hidden = plain_least(rows, asked, names), plain_secrets(rows, asked, names)
        rest = () if of is None else (tuple(of),)
        self.assertEqual(least_files(table, asked, *rest), least)
        self.assertEqual(secrets(table, asked, *rest), hidden)
        told = plainly_told(rows, names, asked)
        self.assertEqual(needed(table, asked, of), [
            name for name in names if told and not plainly_told(rows, [n for n in names if n != name], asked)])
        self.assertEqual(idle(table, asked, of), [name for name in names if not any(name in file for file in least)])
        # The facts of [17].
        for file in subsets(names):
            tells = plainly_told(rows, file, asked)
            self.assertEqual(tells, any(set(one) <= set(file) for one in least_files(table, asked, of)))
            self.assertEqual(tells, not any(set(file) <= set(one) for one in secrets(table, asked, of)))

    def test_examples(self):
        rows = [{"x": x, "y": y, "z": z, "s": x + y} for x in (0, 1) for y in (0, 1) for z in (0, 1)]
        table = Table(rows)
        self.assertEqual(least_files(table, "s"), [["x", "y"]])
        self.assertEqual(least_files(table, "x", ["z", "y", "s", "x"]), [["x"], ["y", "s"]])
        self.assertEqual(least_files(of=["s"], asked="s", field=table), [["s"]])
        self.assertEqual(least_files(table, "s", []), [])
        self.assertEqual(secrets(table, "s"), [["x", "z"], ["y", "z"]])
        self.assertEqual(secrets(of=["y", "z", "x"], asked="s", field=table), [["y", "z"], ["z", "x"]])
        self.assertEqual(secrets(table, "s", ["z"]), [["z"]])
        self.assertEqual(secrets(table, "s", []), [[]])
        self.assertEqual(needed(of=["y", "z", "x"], field=table, asked="s"), ["y", "x"])
        self.assertEqual(needed(table, "s", ["y", "z"]), [])
        self.assertEqual(idle(table, "s"), ["z"])
        self.assertEqual(idle(of=["z", "y"], field=table, asked="s"), ["z", "y"])
        one = Table([{"a": 1, "b": 2}, {"a": 3, "b": 2}])
        self.assertEqual(least_files(one, "b"), [[]])
        self.assertEqual(secrets(one, "b"), [])
        self.assertEqual(needed(one, "b"), [])
        self.assertEqual(idle(one, "b"), ["a"])

    def test_secrets_in_the_order_of_lists(self):
        # The longer list [0, 2] stands ahead of the shorter one [1].
        table = Table([{"a": 0, "b": 0, "c": 0, "s": 0}, {"a": 0, "b": 1, "c": 0, "s": 1},
                       {"a": 1, "b": 0, "c": 1, "s": 1}])
        self.assertEqual(secrets(table, "s"), [["a", "c"], ["b"]])

    def test_new_each_time(self):
        table = Table([{"a": 0, "b": 0}, {"a": 1, "b": 1}])
        for work in OF_FILES:
            told = work(table, "b")
            before = [list(one) if isinstance(one, list) else one for one in told]
            for one in told:
                if isinstance(one, list):
                    one.append("zz")
            told.append(3)
            self.assertEqual(work(table, "b"), before)
        known = ["a", "b"]
        thinned(table, known, "a").append("c")
        self.assertEqual(known, ["a", "b"])

    def test_errors(self):
        table = Table([{"a": 0, "b": 0}, {"a": 1, "b": 0}])
        for work in OF_FILES:
            for thing in any_objects():
                if thing not in ("a", "b"):
                    self.assertIs(caught(NoQuestion, work, table, thing, 5).name, thing)
                    self.assertEqual(caught(BadKnown, work, table, "a", ["b", thing]).index, 1)
                if thing is not None and not isinstance(thing, (list, tuple)):
                    self.assertEqual(caught(BadKnown, work, table, "a", thing).index, 0)
            self.assertEqual(caught(BadKnown, work, table, "a", ["b", "b"]).index, 1)

    def test_over_views(self):
        rng = random.Random(17)
        for _ in range(60):
            table = drawn_table(rng)
            names = {f"v{place}": rng.choice(table.questions()) for place in range(rng.randint(1, 5))}
            view = View(table, names)
            rows = [view.answers(row) for row in table.rows()]
            asked = rng.choice(list(names))
            self.look(view, rows, asked, None)
            known = drawn_names(rng, list(names))
            self.assertEqual(told_by(view, known), [name for name in names if plainly_told(rows, known, name)])


if __name__ == "__main__":
    unittest.main()
