"""Promise [98], and what [101] says of it."""

import random
import unittest

from tests.helpers import all_words, any_objects, caught, drawn_machines, drawn_names, drawn_reader
from tests.test_machines import EVER, LAST, ODD, plain_answers, plainly_read
from twoworlds.errors import BadKnown, BadNumber, NoQuestion
from twoworlds.machines import Machines

FIELD = Machines("ab", {"odd": ODD, "last": LAST, "ever": EVER})
# It tells what was read one place ago.
AGO = ("n", {"n": (0, {"a": "y", "b": "n"}), "y": (0, {"a": "yy", "b": "yn"}), "yy": (1, {"a": "yy", "b": "yn"}),
             "yn": (1, {"a": "y", "b": "n"})})
LATE = Machines("ab", {"ago": AGO, "last": LAST})


def late_by(field, known, asked, n, words):
    """Whether the answers to asked of any two of the words are the same but for the last n digits."""
    seen = {}
    for word in words:
        row = plain_answers(field, word)
        told = row[asked][:max(0, len(row[asked]) - n)]
        if seen.setdefault(tuple(row[name] for name in known), told) != told:
            return False
    return True


def delayed(letters, reader, n):
    """A reader that tells what another one told n places ago, and 0 ahead of that; None if it has too many states."""
    begin, states = reader
    spots, table = [(begin, "0" * n)], {}
    for state, kept in spots:
        told = kept + str(states[state][0])
        moves = {letter: (states[state][1][letter], told[1:]) for letter in letters}
        spots += [after for after in dict.fromkeys(moves.values()) if after not in spots]
        table[f"{state}.{kept}"] = (int(told[0]), {letter: f"{after[0]}.{after[1]}" for letter, after in moves.items()})
    return (f"{begin}.{'0' * n}", table) if len(table) <= 6 else None


def drawn_late(rng):
    """A field in which some reader tells late what another one tells."""
    letters = "ba"
    while True:
        reader = drawn_reader(rng, letters, 3)
        late = delayed(letters, reader, rng.randint(1, 3))
        if late is not None:
            more = {f"m{place}": drawn_reader(rng, letters, 2) for place in range(rng.randint(0, 1))}
            return Machines(letters, {"late": late, "now": reader, **more})


class TestLate(unittest.TestCase):
    def test_example(self):
        self.assertFalse(LATE.is_told(["ago"], "last"))
        self.assertEqual(LATE.lag(known=["ago"], asked="last"), 1)
        self.assertEqual((LATE.lag(["last"], "ago"), LATE.lag(["last"], "last")), (0, 0))
        self.assertIsNone(FIELD.lag(["ever"], "odd"))
        plan = LATE.late_plan(["ago"], "last", 1)
        self.assertEqual(plainly_read(plan, ["ago"], {"ago": "00110"}), [None, 0, 1, 1, 0])
        self.assertIsNone(LATE.late_plan(["ago"], "last", 0))
        self.assertIsNone(LATE.late_words(["ago"], "last", 1))
        self.assertIn(LATE.late_words(n=0, asked="last", known=["ago"]), (("a", "b"), ("b", "a")))
        written = ("x", {"x": {"0": (None, "y")}, "y": {"0": (0, "k"), "1": (None, "y")}, "k": {"0": (0, "k"), "1": (1, "k")}})
        self.assertIs(LATE.is_late_plan(thing=written, n=1, asked="last", known=["ago"]), True)
        self.assertIs(LATE.is_late_plan(["ago"], "last", 2, written), False)
        self.assertIs(LATE.is_late_plan(["ago"], "last", 0, written), False)
        self.assertIs(LATE.is_plan(["ago"], "last", written), False)

    def test_drawn(self):
        rng = random.Random(98)
        lags = {}
        for place in range(400):
            field = drawn_late(rng) if place % 3 else drawn_machines(rng, 3, 3, 3)
            known = drawn_names(rng, field.questions())[:2] or field.questions()[:1]
            asked = rng.choice(field.questions())
            if place % 3 == 1:
                known, asked = ["late"], "now"
            words = all_words(field.letters(), 7)
            lag = field.lag(known, asked)
            lags[lag] = lags.get(lag, 0) + 1
            self.assertEqual(lag == 0, field.is_told(known, asked))
            for n in range(4):
                plan, pair = field.late_plan(known, asked, n), field.late_words(known, asked, n)
                is_late = lag is not None and lag <= n
                self.assertEqual((plan is not None, pair is None), (is_late, is_late))
                if is_late:
                    self.assertTrue(late_by(field, known, asked, n, words))
                    self.look_at_plan(rng, field, known, asked, n, plan, words[:60])
                else:
                    self.assertIs(type(pair), tuple)
                    one, other = plain_answers(field, pair[0]), plain_answers(field, pair[1])
                    self.assertTrue(all(one[name] == other[name] for name in known))
                    self.assertNotEqual(one[asked][-1 - n], other[asked][-1 - n])
        self.assertTrue(all(lags.get(lag, 0) >= 5 for lag in (0, 1, None)), lags)
        self.assertTrue(any(lag is not None and lag > 1 for lag in lags), lags)

    def look_at_plan(self, rng, field, known, asked, n, plan, words):
        self.assertIs(field.is_late_plan(known, asked, n, plan), True)
        for word in words:
            row = plain_answers(field, word)
            right = [None] * n + [int(digit) for digit in row[asked]]
            self.assertEqual(plainly_read(plan, known, row), right[:len(row[asked])])
        begin, table = plan
        more = {**table, "zz": {"9" * len(known): (None if n else 3, "zz")}, "yy": {}}
        self.assertIs(field.is_late_plan(known, asked, n, [begin, more]), True)
        self.assertIs(field.is_late_plan(known, asked, n, (begin, {**table, "zz": {"9" * len(known): (None, "zz")}})), n > 0)
        name = rng.choice(list(table))
        for key, (digit, after) in table[name].items():
            others = [bad for bad in (None, 0, 1, 9) if bad != digit]
            for row in ({one: table[name][one] for one in table[name] if one != key},
                        *[{**table[name], key: (bad, after)} for bad in others],
                        {**table[name], key: (True, after)}, {**table[name], key: (digit, "xx")}):
                self.assertIs(field.is_late_plan(known, asked, n, (begin, {**table, name: row})), False)
            other = rng.choice(list(table))
            bent = (begin, {**table, name: {**table[name], key: (digit, other)}})
            if field.is_late_plan(known, asked, n, bent):
                for word in words:
                    row = plain_answers(field, word)
                    right = [None] * n + [int(one) for one in row[asked]]
                    self.assertEqual(plainly_read(bent, known, row), right[:len(row[asked])])

    def test_a_plan_for_0_is_a_plan(self):
        for known, asked in ((["odd"], "last"), (["last"], "ever"), (["last", "ever"], "odd")):
            plan = FIELD.plan(known, asked)
            self.assertIs(FIELD.is_late_plan(known, asked, 0, plan), True)
            self.assertIs(FIELD.is_plan(known, asked, FIELD.late_plan(known, asked, 0)), True)

    def test_by_the_sum(self):
        rng = random.Random(101)
        for _ in range(200):
            field = drawn_machines(rng, 2, 3, 3)
            for one in field.questions():
                for two in field.questions():
                    for three in field.questions():
                        lags = [field.lag([one], two), field.lag([two], three), field.lag([one], three)]
                        if lags[0] is not None and lags[1] is not None:
                            self.assertLessEqual(lags[2], lags[0] + lags[1])

    def test_any_objects(self):
        for thing in any_objects():
            for n in (0, 1):
                self.assertIs(LATE.is_late_plan(["ago"], "last", n, thing), False)
            if type(thing) is not int or thing < 0:
                for work, rest in ((LATE.late_words, ()), (LATE.late_plan, ()), (LATE.is_late_plan, (3,))):
                    self.assertIs(caught(BadNumber, work, ["ago"], "last", thing, *rest).thing, thing)

    def test_order_of_errors(self):
        for work, rest in ((LATE.lag, ()), (LATE.late_words, (None,)), (LATE.late_plan, (None,)),
                           (LATE.is_late_plan, (None, 3))):
            self.assertEqual(caught(BadKnown, work, [], "zz", *rest).index, 0)
            for thing in any_objects():
                if not isinstance(thing, (list, tuple)):
                    self.assertEqual(caught(BadKnown, work, thing, "zz", *rest).index, 0)
                self.assertEqual(caught(BadKnown, work, ["ago", thing], "zz", *rest).index, 1)
                self.assertIs(caught(NoQuestion, work, ["ago"], thing, *rest).name, thing)
            self.assertEqual(caught(BadKnown, work, ["ago", "ago"], "zz", *rest).index, 1)


if __name__ == "__main__":
    unittest.main()
