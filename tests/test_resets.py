"""Promises [67] to [69]."""

import random
import unittest
from itertools import combinations

from tests.helpers import all_rows, any_objects, caught, drawn_moves
from twoworlds.boxes import Box
from twoworlds.errors import NoState
from twoworlds.resets import (alike_states, blind_list, is_blind_list, is_keep, keep, least_moves, now_row, parting_row,
                              reset_row)

# Cerny's box of four states: the first row that brings all to one has nine letters.
CERNY = Box({f"s{place}": {"a": ("u", f"s{(place + 1) % 4}"), "b": ("u", f"s{0 if place == 3 else place}")}
             for place in range(4)}, {"q": []})


def box_of(moves):
    return Box(moves, {"q": []})


def drawn_boxes(seed, many, states=4, letters=2, signs=("u", "v")):
    rng = random.Random(seed)
    return [box_of(drawn_moves(rng, states, letters, signs)) for _ in range(many)]


def plainly_kept(box, thing, is_blind):
    """A keep by its rule, of lists of pairs of unlike states."""
    inside = {frozenset(pair) for pair in thing}
    return bool(thing) and all(
        frozenset((box.move(one, letter)[1], box.move(other, letter)[1])) in inside
        and (not is_blind or box.move(one, letter)[0] == box.move(other, letter)[0])
        for one, other in thing for letter in box.letters())


class TestAlike(unittest.TestCase):
    def test_against_all_rows(self):
        for box in drawn_boxes(67, 250):
            states, rows = box.states(), all_rows(box.letters(), len(box.states()))
            alike = {}
            for one in states:
                for other in states:
                    right = [row for row in rows if box.out(one, row) != box.out(other, row)]
                    told = parting_row(box, one, other)
                    self.assertEqual(told, right[0] if right else None)
                    self.assertIs(type(told), list if right else type(None))
                    if right:
                        self.assertLess(len(told), len(states))
                    alike.setdefault(one, []).extend([] if right else [other])
            lists = [alike[one] for one in states if alike[one][0] == one]
            self.assertEqual(alike_states(box), lists)
            self.look_at_least(box, lists, rows)

    def look_at_least(self, box, lists, rows):
        moves = least_moves(box)
        self.assertEqual(list(moves), [group[0] for group in lists])
        least = box_of(moves)
        self.assertTrue(all(list(moves[state]) == box.letters() for state in moves))
        self.assertTrue(all(type(move) is tuple for state in moves for move in moves[state].values()))
        for group in lists:
            for state in group:
                for row in rows:
                    self.assertEqual(least.out(group[0], row), box.out(state, row))
        self.assertEqual(alike_states(least), [[state] for state in moves])

    def test_examples(self):
        moves = {"c": {"x": ("u", "a"), "y": ("u", "b")}, "a": {"x": ("u", "b"), "y": ("v", "c")},
                 "b": {"y": ("v", "c"), "x": ("u", "a")}}
        box = box_of(moves)
        self.assertEqual(parting_row(other="a", one="c", box=box), ["y"])
        self.assertIsNone(parting_row(box, "a", "b"))
        self.assertIsNone(parting_row(box, "c", "c"))
        self.assertEqual(alike_states(box=box), [["c"], ["a", "b"]])
        self.assertEqual(least_moves(box=box), {"c": {"x": ("u", "a"), "y": ("u", "a")},
                                                "a": {"x": ("u", "a"), "y": ("v", "c")}})
        least_moves(box)["c"]["x"] = 3
        self.assertEqual(box.move("c", "x"), ("u", "a"))
        self.assertEqual(alike_states(CERNY), [["s0", "s1", "s2", "s3"]])

    def test_errors(self):
        for thing in any_objects():
            self.assertIs(caught(NoState, parting_row, CERNY, thing, 3).name, thing)
            self.assertIs(caught(NoState, parting_row, CERNY, "s1", thing).name, thing)


class TestToOne(unittest.TestCase):
    def test_against_all_rows(self):
        seen = {True: 0, False: 0}
        for box in drawn_boxes(68, 300, 4, 2) + drawn_boxes(681, 100, 3, 3):
            told, pairs = reset_row(box), keep(box)
            seen[told is None] += 1
            self.assertEqual(told is None, pairs is not None)
            rows = all_rows(box.letters(), 9 if len(box.letters()) < 3 else 4)
            right = [row for row in rows if len({box.end(state, row) for state in box.states()}) == 1]
            self.assertEqual(told, right[0] if right else None)
            if pairs is not None:
                self.look_at_pairs(box, pairs, is_keep, False)
            self.assertIs(is_keep(box, []), False)
        self.assertGreater(min(seen.values()), 30)

    def look_at_pairs(self, box, pairs, tells, is_blind):
        self.assertIs(type(pairs), list)
        self.assertTrue(all(type(pair) is tuple for pair in pairs))
        self.assertIs(tells(box, pairs), True)
        self.assertIs(tells(box, tuple([other, one] for one, other in pairs)), True)
        self.assertIs(tells(box, [*pairs, pairs[0], pairs[-1][::-1]]), True)
        one = pairs[0][0]
        for bent in ([*pairs, (one, one)], [*pairs, (one,)], [*pairs, (*pairs[0], one)], [*pairs, (one, "zz")],
                     [*pairs, (one, None)], [*pairs, one], [*pairs, [[], one]], {}, None, pairs[0], "ab", 3):
            self.assertIs(tells(box, bent), False, bent)
        for many in range(len(pairs) + 1):
            for some in list(combinations(pairs, many))[:20]:
                self.assertIs(tells(box, list(some)), plainly_kept(box, some, is_blind))
        for other in combinations(box.states(), 2):
            self.assertIs(tells(box, [other]), plainly_kept(box, [other], is_blind))
            self.assertIs(tells(box, [*pairs, other]), plainly_kept(box, [*pairs, other], is_blind))

    def test_now_against_all_rows(self):
        seen = {True: 0, False: 0}
        for box in drawn_boxes(69, 120, 4, 2) + drawn_boxes(691, 60, 3, 3) + drawn_boxes(692, 60, 4, 2, ("u",)):
            told, pairs = now_row(box), blind_list(box)
            seen[told is None] += 1
            self.assertEqual(told is None, pairs is not None)
            rows = all_rows(box.letters(), 9 if len(box.letters()) < 3 else 4)
            right = [row for row in rows if self.tells_now(box, row)]
            self.assertEqual(told, right[0] if right else None)
            if pairs is not None:
                self.look_at_pairs(box, pairs, is_blind_list, True)
                self.assertIs(is_keep(box, pairs), True)
            if reset_row(box) is not None:
                self.assertIsNotNone(told)
            self.assertIs(is_blind_list(box, []), False)
        self.assertGreater(min(seen.values()), 30)

    def tells_now(self, box, row):
        ends = {}
        return all(ends.setdefault(box.out(state, row), box.end(state, row)) == box.end(state, row)
                   for state in box.states())

    def test_examples(self):
        self.assertEqual(reset_row(box=CERNY), list("baaabaaab"))
        self.assertIsNone(keep(CERNY))
        self.assertEqual(now_row(CERNY), list("baaabaaab"))
        one = box_of({"s": {"x": ("u", "s")}})
        self.assertEqual((reset_row(one), now_row(one), keep(one), blind_list(one)), ([], [], None, None))
        two = box_of({"s": {"x": ("u", "t")}, "t": {"x": ("v", "s")}})
        self.assertIsNone(reset_row(two))
        self.assertEqual(now_row(box=two), ["x"])
        self.assertIn(sorted(keep(two)[0]), [["s", "t"]])
        self.assertIs(is_keep(thing=[["t", "s"]], box=two), True)
        self.assertIs(is_blind_list(thing=[["t", "s"]], box=two), False)
        blind = box_of({"s": {"x": ("u", "t")}, "t": {"x": ("u", "s")}})
        self.assertIsNone(now_row(blind))
        self.assertIs(is_blind_list(blind, blind_list(blind)), True)
        # Alike states that never come together are unlike ones all the same.
        self.assertIs(is_keep(blind, [("s", "t")]), True)

    def test_any_objects(self):
        box = box_of({"a": {"x": ("u", "b")}, "b": {"x": ("u", "a")}})
        for thing in any_objects():
            right = isinstance(thing, (list, tuple)) and len(thing) == 1 and list(thing[0:1]) == [("a", "b")]
            self.assertIs(is_keep(box, thing), right)
            self.assertIs(is_blind_list(box, thing), right)
            self.assertIs(is_keep(box, [("a", thing)]), thing == "b")
        self.assertIs(is_keep(box, [("a", "b")]), True)


if __name__ == "__main__":
    unittest.main()
