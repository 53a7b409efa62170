"""Promises [89] and [90]."""

import random
import unittest

from tests.helpers import all_words, any_objects, caught, drawn_class, drawn_code, drawn_codes, drawn_names
from tests.test_codes import plain_answers
from twoworlds.codes import Codes
from twoworlds.errors import BadAnswers, BadKnown, BadReader, NoClass, NoQuestion

# By a the code shows 0 and by b 1; the class tells whether the letters a are even, the other one the last letter.
CODE = {"s": {"a": ("s", "0"), "b": ("s", "1")}}
EVEN = {"e": (0, {"a": "o", "b": "e"}), "o": (1, {"a": "e", "b": "o"})}
LAST = {"n": (0, {"a": "y", "b": "n"}), "y": (1, {"a": "y", "b": "n"})}
FIELD = Codes("ab", {"c": CODE}, {"k": EVEN, "l": LAST})
READER = [({(): 0}, {"0": 1, "1": 0}), ({(): 1}, {"0": 0, "1": 1})]


def by_kinds(field, known):
    """The known codes and the known classes."""
    codes = [name for name in known if isinstance(field.answers("")[name], str)]
    return codes, [name for name in known if name not in codes]


def shown_and_marked(field, known, row):
    """The symbols that a word shows and the tuple of its marks, by its answers."""
    codes, classes = by_kinds(field, known)
    symbols = list(zip(*[row[name] for name in codes]))
    return ["".join(symbol) for symbol in symbols], tuple(row[name] for name in classes)


def plainly_least(field, known, asked, rows, longest):
    """The least reader, by what comes behind each beginning; for codes that show something for each letter."""
    tables = {}
    for row in rows:
        symbols, marks = shown_and_marked(field, known, row)
        tables.setdefault(tuple(symbols), {})[marks] = row[asked]
        for many in range(len(symbols)):
            tables.setdefault(tuple(symbols[:many]), {})

    def behind(begin):
        return tuple(sorted((text[len(begin):], tuple(sorted(table.items()))) for text, table in tables.items()
                            if text[:len(begin)] == begin and len(text) <= len(begin) + longest))
    begins, numbers, out = [()], {behind(()): 0}, []
    for begin in begins:
        steps = {}
        for symbol in sorted({text[len(begin)] for text in tables if text[:len(begin)] == begin and len(text) > len(begin)}):
            after = begin + (symbol,)
            if behind(after) not in numbers:
                numbers[behind(after)] = len(begins)
                begins.append(after)
            steps[symbol] = numbers[behind(after)]
        out.append((dict(sorted(tables[begin].items())), steps))
    return out


def plainly_read(reader, symbols, marks):
    at = 0
    for symbol in symbols:
        if symbol not in reader[at][1]:
            return None
        at = reader[at][1][symbol]
    return reader[at][0].get(marks)


class TestReaders(unittest.TestCase):
    def test_least(self):
        rng = random.Random(90)
        sizes = {}
        for _ in range(300):
            letters = "ab"[:rng.randint(1, 2)]
            even = rng.random() < 0.5
            codes = {f"c{place}": drawn_code(rng, letters, 2, rng.choice(("0", "01", "012")), 1 if even else 2, 1)
                     for place in range(rng.randint(0, 2) if even else 1)}
            field = Codes(letters, codes, {f"k{place}": drawn_class(rng, letters, 2) for place in range(2)})
            known, asked = drawn_names(rng, field.questions()), rng.choice(("k0", "k1"))
            found = field.least_reader(known, asked)
            self.assertEqual(found is not None, field.is_told(known, asked))
            if found is not None:
                rows = [plain_answers(field, word) for word in all_words(letters, 9 if len(letters) == 2 else 14)]
                if by_kinds(field, known)[0]:
                    rows = [row for row in rows if len(shown_and_marked(field, known, row)[0]) <= 9]
                right = plainly_least(field, known, asked, rows, 4)
                if len(right) <= 6:
                    self.assertEqual(found, right)
                    self.assertEqual([(list(table), list(steps)) for table, steps in found],
                                     [(list(table), list(steps)) for table, steps in right])
                    sizes[len(found)] = sizes.get(len(found), 0) + 1
                self.assertEqual([type(pair) for pair in found], [tuple] * len(found))
                self.assertIs(type(found), list)
        self.assertTrue(all(sizes.get(size, 0) > 3 for size in (1, 2, 3)), sizes)

    def test_drawn(self):
        rng = random.Random(89)
        looked = 0
        for _ in range(500):
            field = drawn_codes(rng, 2, 2, 3)
            classes = [name for name in field.questions() if name.startswith("k")]
            if not classes:
                continue
            known, asked = drawn_names(rng, field.questions()), rng.choice(classes)
            found = field.least_reader(known, asked)
            if found is None:
                self.assertFalse(field.is_told(known, asked))
                continue
            looked += 1
            self.assertIs(field.is_reader(known, asked, found), True)
            words = all_words(field.letters(), 7)
            for word in words:
                row = plain_answers(field, word)
                symbols, marks = shown_and_marked(field, known, row)
                self.assertEqual(plainly_read(found, symbols, marks), row[asked])
                self.assertEqual(field.read(known, asked, found, {name: row[name] for name in known}), row[asked])
            self.look_at_bent(rng, field, known, asked, found)
        self.assertGreater(looked, 150)

    def look_at_bent(self, rng, field, known, asked, found):
        at = rng.randrange(len(found))
        table, steps = found[at]

        def with_pair(pair):
            return found[:at] + [pair] + found[at + 1:]
        for marks in table:
            self.assertIs(field.is_reader(known, asked, with_pair((
                {key: table[key] for key in table if key != marks}, steps))), False)
            self.assertIs(field.is_reader(known, asked, with_pair(({**table, marks: table[marks] + 1}, steps))), False)
        codes, classes = by_kinds(field, known)
        for symbol in steps:
            self.assertIs(field.is_reader(known, asked, with_pair((
                table, {key: steps[key] for key in steps if key != symbol}))), False)
            for bad in (len(found), -1, True, None, "0"):
                self.assertIs(field.is_reader(known, asked, with_pair((table, {**steps, symbol: bad}))), False)
        more = [*found, ({}, {}), ({(99,) * len(classes): 5}, {})]
        self.assertIs(field.is_reader(known, asked, more), True)
        self.assertIs(field.is_reader(known, asked, tuple([list(pair) for pair in more])), True)
        self.assertIs(field.is_reader(known, asked, with_pair(({**table, (98,) * len(classes): 5}, steps)))
                      if classes else True, True)
        if codes:
            extra = {**steps, "z" * len(codes): 0}
            self.assertIs(field.is_reader(known, asked, with_pair((table, extra))), True)
        for bad in ({**steps, "z" * (len(codes) + 1): 0}, {**steps, "": 0}, {**steps, 0: 0}, {**steps, "Z" * len(codes): 0}):
            self.assertIs(field.is_reader(known, asked, with_pair((table, bad))), False)
        for bad in ((1,) * (len(classes) + 1), "k" * len(classes), 1, None, (True,) * len(classes) if classes else (1,)):
            self.assertIs(field.is_reader(known, asked, with_pair(({bad: 0, **table}, steps))), False)
        for bad in (True, None, "0", (0,)):
            self.assertIs(field.is_reader(known, asked, [*found, ({(97,) * len(classes): bad}, {})]), False)

    def test_examples(self):
        self.assertEqual(FIELD.least_reader(known=["c"], asked="k"), READER)
        self.assertEqual(FIELD.least_reader(["c"], "l"), [({(): 0}, {"0": 1, "1": 0}), ({(): 1}, {"0": 1, "1": 0})])
        self.assertEqual(FIELD.least_reader(["k"], "k"), [({(0,): 0, (1,): 1}, {})])
        self.assertIsNone(FIELD.least_reader(["k"], "l"))
        self.assertIsNone(FIELD.least_reader([], "l"))
        self.assertEqual(FIELD.least_reader(["l", "c", "k"], "k"), [
            ({(0, 0): 0}, {"0": 1, "1": 0}), ({(1, 1): 1}, {"0": 2, "1": 3}),
            ({(1, 0): 0}, {"0": 1, "1": 0}), ({(0, 1): 1}, {"0": 2, "1": 3})])
        # Read with more pairs than are needed: one comes to the same answers.
        more = [({(): 0}, {"0": 1, "1": 2}), ({(): 1}, {"0": 0, "1": 3}), ({(): 0}, {"0": 3, "1": 0}),
                ({(): 1}, {"0": 2, "1": 1})]
        self.assertIs(FIELD.is_reader(thing=more, asked="k", known=["c"]), True)
        self.assertEqual(FIELD.read(answers={"c": "0110"}, reader=more, asked="k", known=["c"]), 0)
        self.assertIs(FIELD.is_reader(["c"], "k", more[:3]), False)
        self.assertIs(FIELD.is_reader(["c"], "l", READER), False)
        silent = Codes("ab", {"c": {"s": {"a": ("s", ""), "b": ("s", "012")}}}, {"k": LAST, "f": {"o": (4, {"a": "o", "b": "o"})}})
        self.assertEqual(silent.least_reader(["c"], "f"), [({(): 4}, {"0": 1}), ({}, {"1": 2}), ({}, {"2": 0})])
        self.assertEqual(silent.least_reader(["k", "c"], "f"), [
            ({(0,): 4, (1,): 4}, {"0": 1}), ({}, {"1": 2}), ({}, {"2": 0})])

    def test_any_objects(self):
        flat = Codes("a", {}, {"k": {"o": (1, {"a": "o"})}})
        for thing in any_objects():
            self.assertIs(FIELD.is_reader(["c"], "k", thing), False)
            self.assertIs(FIELD.is_reader(["c"], "k", [*READER, thing]),
                          thing in ([{}, {}], ({}, {})))
            self.assertIs(FIELD.is_reader(["c"], "k", [READER[0], ({(): 1}, thing)]), False)
            self.assertIs(FIELD.is_reader(["c"], "k", [READER[0], (thing, READER[1][1])]), False)
            self.assertIs(FIELD.is_reader(["c"], "k", [READER[0], ({(): thing}, READER[1][1])]), type(thing) is int
                          and thing == 1)
            self.assertIs(FIELD.is_reader(["c"], "k", [READER[0], ({(): 1}, {"0": 0, "1": thing})]),
                          type(thing) is int and thing == 1)
            self.assertIs(caught(BadReader, FIELD.read, ["c"], "k", thing, 3).thing, thing)
            self.assertIs(flat.is_reader([], "k", [({(): thing}, {})]), type(thing) is int and thing == 1)
        self.assertIs(flat.is_reader([], "k", [({(): 1}, {"a": 0})]), False)
        self.assertIs(flat.is_reader([], "k", [({(): 1}, {"": 0})]), False)
        self.assertIs(flat.is_reader([], "k", []), False)

    def test_read(self):
        field = Codes("ab", {"c": CODE, "d": CODE}, {"k": EVEN, "l": LAST})
        reader = field.least_reader(["k", "d", "c"], "l")
        self.assertEqual(field.read(["k", "d", "c"], "l", reader, {"c": "10", "d": "10", "k": 1, "l": None}), 1)
        for bad in ({"c": "10", "d": "10"}, {}, None, [], {"c": "10", "d": "1", "k": 1}, {"c": "10", "d": "11", "k": 1},
                    {"c": "10", "d": "10", "k": 0}, {"c": "10", "d": "10", "k": True}, {"c": "10", "d": "10", "k": "1"},
                    {"c": "10", "d": None, "k": 1}, {"c": "10", "d": ["1", "0"], "k": 1}, {"c": "20", "d": "20", "k": 1}):
            self.assertIs(caught(BadAnswers, field.read, ["k", "d", "c"], "l", reader, bad).thing, bad)
        # What no word has is read all the same where the reader goes on along it.
        loose = [({(0,): 0, (1,): 1, (7,): 9}, {})]
        self.assertEqual(field.read(["k"], "k", loose, {"k": 7}), 9)

    def test_order_of_errors(self):
        for work, rest in ((FIELD.least_reader, ()), (FIELD.is_reader, (3,)), (FIELD.read, (3, 3))):
            for thing in any_objects():
                if not isinstance(thing, (list, tuple)):
                    self.assertEqual(caught(BadKnown, work, thing, "zz", *rest).index, 0)
                self.assertEqual(caught(BadKnown, work, ["k", thing], "zz", *rest).index, 1)
                self.assertIs(caught(NoQuestion, work, ["c"], thing, *rest).name, thing)
            self.assertEqual(caught(BadKnown, work, ["k", "k"], "zz", *rest).index, 1)
            self.assertEqual(caught(BadKnown, work, ["k", "k"], "c", *rest).index, 1)
            self.assertEqual(caught(NoClass, work, ["c"], "c", *rest).name, "c")
        self.assertIs(caught(BadReader, FIELD.read, ["c"], "k", None, None).thing, None)
        self.assertIs(caught(BadAnswers, FIELD.read, ["c"], "k", READER, None).thing, None)


if __name__ == "__main__":
    unittest.main()
