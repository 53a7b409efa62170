"""Promises [58] to [60], [56] for the numbers of pieces, and the rings of [62]."""

import random
import unittest
from collections import Counter
from itertools import product

from tests.helpers import any_objects, caught
from twoworlds.errors import BadAnswers, BadLetters, BadNumber, BadWorld
from twoworlds.rings import all_rings, exchanges, first_reading, is_of_ring, many_rings, numbers, ring_of

WRITTEN = {"aa": 1, "ab": 2, "ba": 2, "bb": 1}


def plain_numbers(ring, n):
    """The numbers of pieces of n letters, letter by letter."""
    return Counter("".join(ring[(place + step) % len(ring)] for step in range(n)) for place in range(len(ring)))


def strings(letters, many):
    return ["".join(row) for row in product(letters, repeat=many)]


def turns(ring):
    return [ring[place:] + ring[:place] for place in range(len(ring))]


def plain_exchanges(ring, n):
    """All rings by all four places."""
    many, found = len(ring), set()

    def mark(place):
        return "".join(ring[(place + step) % many] for step in range(n - 1))

    def read(place, other):
        return "".join(ring[step % many] for step in range(place, other))
    for one in range(many):
        for two in range(one + 1, one + many):
            for three in range(two, one + many):
                for four in range(three + 1, one + many):
                    if mark(one) == mark(three) and mark(two) == mark(four):
                        found.add(min(turns(read(three, four) + read(two, three) + read(one, two)
                                            + read(four, one + many))))
    return sorted(found - {min(turns(ring))})


class TestNumbers(unittest.TestCase):
    def test_numbers(self):
        self.assertEqual(list(numbers("ba", "abab", 2).items()), [("ab", 2), ("ba", 2)])
        self.assertEqual(list(numbers(n=3, ring="cab", letters="cab").items()), [("abc", 1), ("bca", 1), ("cab", 1)])
        self.assertEqual(numbers("a", "a", 3), {"aaa": 1})
        self.assertEqual(numbers("ab", "ab", 5), {"ababa": 1, "babab": 1})
        self.assertEqual(numbers("ab", "b", 1), {"b": 1})
        rng = random.Random(58)
        for _ in range(300):
            letters = "".join(rng.sample("xaz", rng.randint(1, 3)))
            ring = "".join(rng.choice(letters) for _ in range(rng.randint(1, 40)))
            n = rng.randint(1, 5)
            told = numbers(letters, ring, n)
            self.assertEqual(told, plain_numbers(ring, n))
            self.assertEqual(list(told), sorted(told))
            self.assertIs(is_of_ring(letters, n, told), True)
            for piece, number in numbers(letters, ring, n).items():
                for part in (piece[1:], piece[:-1]):
                    self.assertEqual(plain_numbers(ring, n - 1)[part] > 0 or n == 1, True)
                longer = numbers(letters, ring, n + 1)
                self.assertEqual(number, sum(longer.get(piece + letter, 0) for letter in letters))
                self.assertEqual(number, sum(longer.get(letter + piece, 0) for letter in letters))

    def test_all_small_dicts(self):
        for letters, n, longest in (("ab", 1, 6), ("ab", 2, 8), ("a", 2, 4), ("ab", 3, 8), ("abc", 1, 6)):
            pieces = strings(letters, n)
            right = {}
            for many in range(1, longest + 1):
                for ring in strings(letters, many):
                    right.setdefault(tuple(sorted(plain_numbers(ring, n).items())), []).append(ring)
            for row in product(range(3 if len(pieces) < 8 else 2), repeat=len(pieces)):
                counts = {piece: number for piece, number in zip(pieces, row) if number > 0}
                key = tuple(sorted(counts.items()))
                if sum(row) <= longest:
                    self.assertIs(is_of_ring(letters, n, counts), key in right, counts)
                    told = ring_of(letters, n, dict(list(counts.items())[::-1]))
                    self.assertEqual(told is not None, key in right)
                    if told is not None:
                        self.assertEqual(plain_numbers(told, n), counts)
                        self.assertIn(told, right[key])

    def test_bent_counts(self):
        for bent in ({}, None, [], {"aa": 1, "bb": 1}, {"ab": 1}, {"ab": 1, "ba": 2}, {"aa": 1, "ab": 0, "ba": 0},
                     {"aa": True}, {"aa": -1}, {"aa": 0}, {"aaa": 1}, {"a": 1}, {"cc": 1}, {"aa": 1, "c": 1}, {1: 1},
                     {"aa": 1, None: 1}, {"aa": "1"}, {("a", "a"): 1}, [("aa", 1)], {"aa": 1, "bb": 2}):
            self.assertIs(is_of_ring("ab", 2, bent), False, bent)
            self.assertIsNone(ring_of("ab", 2, bent))
            for work in (many_rings, all_rings):
                self.assertIs(caught(BadAnswers, work, "ab", 2, bent).thing, bent)
        for thing in any_objects():
            right = thing == {"a": 1} and type(thing["a"]) is int
            self.assertIs(is_of_ring("a", 1, thing), right, thing)
            self.assertEqual(ring_of("a", 1, thing), "a" if right else None)
            for work in (many_rings, all_rings):
                if not right:
                    self.assertIs(caught(BadAnswers, work, "a", 1, thing).thing, thing)
        self.assertIs(is_of_ring(thing={"ba": 2, "bb": 1, "ab": 2, "aa": 1}, n=2, letters="ba"), True)
        self.assertIs(is_of_ring("ab", 10 ** 15, {"aa": 1}), False)
        self.assertIs(is_of_ring("ab", 1, {"a": 10 ** 15 - 1, "b": 3}), True)
        self.assertIs(is_of_ring("abc", 2, {"ab": 1, "ba": 1, "cc": 1}), False)

    def test_errors(self):
        calls = [(numbers, ("a", 1)), (is_of_ring, (1, {})), (ring_of, (1, {})), (many_rings, (1, {"a": 1})),
                 (first_reading, ("a",)), (all_rings, (1, {"a": 1})), (exchanges, ("a", 1))]
        for work, rest in calls:
            bent = [None] * len(rest)
            for thing in [*any_objects(), "aa", "abcd", "aba", "aB", "a1", "a.", ["a"], ("a",), {"a": 1}, "ab "]:
                if not isinstance(thing, str) or thing not in ("a", "b", "abc"):
                    self.assertIs(caught(BadLetters, work, thing, *bent).thing, thing)
        for thing in any_objects():
            for work in (numbers, exchanges):
                if thing not in ("a", "b"):
                    self.assertIs(caught(BadWorld, work, "ab", thing, None).thing, thing)
                if type(thing) is not int or thing < 1:
                    self.assertIs(caught(BadNumber, work, "ab", "ab", thing).thing, thing)
            if thing not in ("a", "b"):
                self.assertIs(caught(BadWorld, first_reading, "ab", thing).thing, thing)
            for work in (is_of_ring, ring_of, many_rings, all_rings):
                if type(thing) is not int or thing < 1:
                    self.assertIs(caught(BadNumber, work, "ab", thing, None).thing, thing)
        for ring in ("", "abc", "A", "a b", ["a"], ("a", "b"), None):
            self.assertIs(caught(BadWorld, numbers, "ab", ring, 1).thing, ring)


class TestManyRings(unittest.TestCase):
    def test_against_all_strings(self):
        for letters, n, longest in (("ab", 1, 9), ("ba", 2, 9), ("ab", 3, 9), ("cab", 1, 7), ("abc", 2, 7),
                                    ("abc", 3, 7), ("a", 3, 5), ("ab", 4, 8)):
            for many in range(1, longest + 1):
                right = {}
                for ring in strings(letters, many):
                    right.setdefault(tuple(sorted(plain_numbers(ring, n).items())), []).append(ring)
                for key, rings in right.items():
                    counts = dict(key[::-1])
                    self.assertEqual(many_rings(letters, n, counts), len(rings))
                    told = all_rings(letters, n, counts)
                    self.assertEqual(told, sorted({min(turns(ring)) for ring in rings}))
                    self.assertEqual(first_reading(letters, rings[-1]), min(turns(rings[-1])))

    def test_written(self):
        self.assertEqual(many_rings(counts=WRITTEN, n=2, letters="ab"), 12)
        self.assertEqual(all_rings(n=2, letters="ab", counts=WRITTEN), ["aababb", "aabbab"])
        self.assertEqual(first_reading(ring="cba", letters="bca"), "acb")
        self.assertEqual(first_reading("zyx", "zzyx"), "xzzy")
        self.assertEqual(many_rings("ab", 1, {"a": 20, "b": 20}), 137846528820)

    def test_long_rings(self):
        rng = random.Random(59)
        for _ in range(30):
            ring = "".join(rng.choice("abc") for _ in range(40))
            for n in (1, 2, 3):
                counts = numbers("abc", ring, n)
                self.assertEqual(numbers("abc", ring_of("abc", n, counts), n), counts)
                self.assertGreaterEqual(many_rings("abc", n, counts), 40 if len(set(turns(ring))) == 40 else 1)


class TestExchanges(unittest.TestCase):
    def test_against_all_places(self):
        rng = random.Random(60)
        rings = [ring for many in range(1, 8) for ring in strings("ab", many)]
        rings += ["".join(rng.choice("abc") for _ in range(rng.randint(7, 9))) for _ in range(25)]
        for ring in rings:
            for n in (1, 2, 3):
                told = exchanges("bac", ring, n)
                self.assertEqual(told, plain_exchanges(ring, n), ring)
                for other in told:
                    self.assertEqual(plain_numbers(other, n), plain_numbers(ring, n))
                    self.assertEqual(first_reading("abc", other), other)
        self.assertEqual(exchanges(n=2, ring="aababb", letters="ab"), ["aabbab"])
        self.assertEqual(exchanges("ab", "bbabaa", 2), ["aababb"])

    def test_same_numbers_come_by_exchanges(self):
        rng = random.Random(601)
        for _ in range(30):
            ring = "".join(rng.choice("abc") for _ in range(rng.randint(5, 8)))
            for n in (1, 2, 3):
                found, todo = {first_reading("abc", ring)}, [ring]
                while todo:
                    for other in exchanges("abc", todo.pop(), n):
                        if other not in found:
                            found.add(other)
                            todo.append(other)
                self.assertEqual(sorted(found), all_rings("abc", n, numbers("abc", ring, n)))


if __name__ == "__main__":
    unittest.main()
