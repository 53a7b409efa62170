"""Promise [20]: live files."""

import random
import unittest

from tests.helpers import any_objects, caught, drawn_sums, drawn_table
from twoworlds.engine import told_by
from twoworlds.errors import Known, NoQuestion, NotKnown
from twoworlds.files import File
from twoworlds.tables import Table

BITS = Table([{"a": x, "b": y, "s": x ^ y} for x in (0, 1) for y in (0, 1)])


class Plain:
    """A file by its rule: all states, and how many of them are gone through."""

    def __init__(self, states=((),), at=0):
        self.states, self.at = list(states), at

    def now(self):
        return list(self.states[self.at])

    def do(self, state):
        self.states = [*self.states[:self.at + 1], tuple(state)]
        self.at += 1

    def move(self, by):
        if not 0 <= self.at + by < len(self.states):
            return False
        self.at += by
        return True


class TestDeeds(unittest.TestCase):
    def test_example(self):
        file = File(field=BITS)
        self.assertEqual((file.known(), file.told(), file.tells("a")), ([], [], False))
        self.assertIsNone(file.learn("s"))
        self.assertIsNone(file.learn(name="a"))
        self.assertEqual(file.known(), ["s", "a"])
        self.assertEqual(file.told(), ["a", "b", "s"])
        self.assertIs(file.tells(name="b"), True)
        self.assertIsNone(file.forget("s"))
        self.assertEqual(file.known(), ["a"])
        self.assertIs(file.undo(), True)
        self.assertEqual(file.known(), ["s", "a"])
        self.assertIs(file.undo(), True)
        self.assertIs(file.again(), True)
        self.assertIs(file.again(), True)
        self.assertIs(file.again(), False)
        self.assertEqual(file.known(), ["a"])
        file.known().append("x")
        file.told().append("x")
        self.assertEqual((file.known(), file.told()), (["a"], ["a"]))

    def test_errors(self):
        file = File(BITS)
        file.learn("a")
        file.learn("b")
        file.undo()
        for thing in any_objects():
            if thing not in ("a", "b", "s"):
                self.assertIs(caught(NoQuestion, file.learn, thing).name, thing)
                self.assertIs(caught(NoQuestion, file.tells, thing).name, thing)
            if thing != "a":
                self.assertIs(caught(NotKnown, file.forget, thing).name, thing)
        self.assertEqual(caught(Known, file.learn, "a").name, "a")
        self.assertEqual(caught(NotKnown, file.forget, name="s").name, "s")
        self.assertEqual(file.known(), ["a"])
        self.assertTrue(file.again())
        self.assertEqual(file.known(), ["a", "b"])

    def test_long_rows(self):
        rng = random.Random(20)
        for _ in range(120):
            field = drawn_table(rng) if rng.random() < 0.7 else drawn_sums(rng)
            pairs = [(File(field), Plain())]
            for _ in range(40):
                file, plain = rng.choice(pairs)
                self.deed(rng, field, file, plain, pairs, 2)
                for one, other in pairs:
                    self.assertEqual(one.known(), other.now())
            for one, other in pairs:
                self.end(one, other)

    def deed(self, rng, field, file, plain, pairs, depth):
        name = rng.choice(field.questions())
        now = plain.now()
        work = rng.choice(("learn", "learn", "forget", "undo", "undo", "again", "told", "copy", "trial"))
        if work == "learn" and name in now:
            self.assertEqual(caught(Known, file.learn, name).name, name)
        elif work == "learn":
            self.assertIsNone(file.learn(name))
            plain.do([*now, name])
        elif work == "forget" and name in now:
            self.assertIsNone(file.forget(name))
            plain.do([one for one in now if one != name])
        elif work == "forget":
            self.assertEqual(caught(NotKnown, file.forget, name).name, name)
        elif work in ("undo", "again"):
            done = file.undo() if work == "undo" else file.again()
            self.assertIs(done, plain.move(-1 if work == "undo" else 1))
        elif work == "told":
            self.assertEqual(file.told(), told_by(field, now))
            self.assertIs(file.tells(name), field.is_told(now, name))
        elif work == "copy":
            pairs.append((file.copy(), Plain(plain.states, plain.at)))
        elif depth > 0:
            self.trial(rng, field, file, plain, depth)

    def trial(self, rng, field, file, plain, depth):
        fails = rng.random() < 0.5
        inner = Plain(plain.states, plain.at)

        def work(given):
            self.assertIs(given, file)
            for _ in range(rng.randint(0, 6)):
                self.deed(rng, field, given, inner, [], depth - 1)
                self.assertEqual(given.known(), inner.now())
            if fails:
                raise ArithmeticError("out")
            return "told", given.known()
        if fails:
            with self.assertRaises(ArithmeticError):
                file.trial(work)
        else:
            self.assertEqual(file.trial(work), ("told", inner.now()))

    def end(self, file, plain):
        """What can be done again and taken back, to both ends."""
        for by, work in ((1, file.again), (-1, file.undo)):
            while plain.move(by):
                self.assertIs(work(), True)
                self.assertEqual(file.known(), plain.now())
            self.assertIs(work(), False)

    def test_trial_by_name_and_own_errors(self):
        file = File(BITS)
        file.learn("a")
        file.learn("b")
        file.undo()
        self.assertEqual(file.trial(work=lambda given: given.learn("s")), None)
        self.assertEqual(caught(Known, file.trial, lambda given: given.learn("a")).name, "a")
        self.assertIsNone(file.trial(lambda given: (given.undo(), given.undo())[0] and None))
        self.assertEqual(file.known(), ["a"])
        self.assertTrue(file.again())
        self.assertEqual(file.known(), ["a", "b"])
        self.assertFalse(file.again())

    def test_copies_go_their_own_way(self):
        file = File(BITS)
        file.learn("a")
        file.learn("b")
        file.undo()
        other = file.copy()
        self.assertIsInstance(other, File)
        file.learn("s")
        self.assertTrue(other.again())
        self.assertEqual((file.known(), other.known()), (["a", "s"], ["a", "b"]))
        self.assertTrue(other.undo() and other.undo())
        self.assertFalse(other.undo())
        self.assertEqual(file.known(), ["a", "s"])


if __name__ == "__main__":
    unittest.main()
