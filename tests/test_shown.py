"""Promise [61]: rings at hand."""

import unittest

from tests.helpers import any_objects, caught
from tests.test_rings import WRITTEN, plain_numbers, strings, turns
from twoworlds.errors import BadAnswers, BadLetters, BadNumber, BadPiece
from twoworlds.shown import settled_by, shown_numbers


class TestShown(unittest.TestCase):
    def test_against_all_strings(self):
        for letters, n, longest in (("ab", 1, 7), ("ba", 2, 9), ("ab", 3, 9), ("cab", 1, 5), ("abc", 2, 6), ("a", 2, 4)):
            pieces = [piece for many in range(1, 5 if len(letters) < 3 else 3) for piece in strings(letters, many)]
            pieces += ["a" * 6, (letters * 6)[:6], (letters * 6)[:5]]
            for many in range(1, longest + 1):
                right = {}
                for ring in strings(letters, many):
                    right.setdefault(tuple(sorted(plain_numbers(ring, n).items())), set()).add(min(turns(ring)))
                for key, rings in right.items():
                    self.look(letters, n, dict(key), sorted(rings), pieces)

    def look(self, letters, n, counts, rings, pieces):
        for piece in pieces:
            told = shown_numbers(letters, n, counts, piece)
            self.assertEqual(told, sorted({plain_numbers(ring, len(piece))[piece] for ring in rings}))
            if len(piece) <= n:
                self.assertEqual(len(told), 1)
        m = n
        while len({tuple(sorted(plain_numbers(ring, m).items())) for ring in rings}) < len(rings):
            m += 1
        self.assertEqual(settled_by(letters, n, counts), m)

    def test_examples(self):
        self.assertEqual(shown_numbers(piece="abb", counts=WRITTEN, n=2, letters="ab"), [1])
        self.assertEqual(shown_numbers("ab", 2, WRITTEN, "aab"), [1])
        self.assertEqual(shown_numbers("ab", 2, WRITTEN, "aabb"), [0, 1])
        self.assertEqual(shown_numbers("ab", 2, WRITTEN, "aba"), [1])
        self.assertEqual(shown_numbers("ab", 2, WRITTEN, "abab"), [0, 1])
        self.assertEqual(settled_by(counts=WRITTEN, n=2, letters="ab"), 4)
        self.assertEqual(settled_by("ab", 1, {"a": 5}), 1)
        self.assertEqual(shown_numbers("ab", 1, {"a": 1}, "aaaaaa"), [1])

    def test_errors(self):
        for thing in any_objects():
            for work, rest in ((shown_numbers, (3,)), (settled_by, ())):
                if thing not in ("a", "b", "abc"):
                    self.assertIs(caught(BadLetters, work, thing, None, None, *rest).thing, thing)
                if type(thing) is not int or thing < 1:
                    self.assertIs(caught(BadNumber, work, "ab", thing, None, *rest).thing, thing)
                if thing != {"a": 1} or type(thing["a"]) is not int:
                    self.assertIs(caught(BadAnswers, work, "ab", 1, thing, *rest).thing, thing)
            if thing not in ("a", "b"):
                self.assertEqual(caught(BadPiece, shown_numbers, "ab", 1, {"a": 1}, thing).index, 0)
        for piece in ("c", "aaaaaaa", "", "A", ["a"], ("a", "b"), None, "a b"):
            self.assertEqual(caught(BadPiece, shown_numbers, "ab", 2, WRITTEN, piece).index, 0)


if __name__ == "__main__":
    unittest.main()
