"""Promises [70] and [71]."""

import random
import unittest

from tests.helpers import all_rows, any_objects, caught, drawn_moves
from twoworlds.boxes import Box
from twoworlds.errors import BadMarks
from twoworlds.firsts import first_row, first_tree, hard_list, is_first_tree, is_hard_list
from twoworlds.resets import alike_states

# By x the state a alone has another sign; y parts the others but brings a to them.
BOX = Box({"a": {"x": ("v", "a"), "y": ("u", "b")}, "b": {"x": ("u", "b"), "y": ("u", "b")},
           "c": {"x": ("u", "c"), "y": ("v", "c")}}, {"q": []})
MARKS = {"c": 3, "a": 1, "b": 2}
# x tells which two are left, y parts a from b but brings c and d together, and z the other way round.
BRANCH = Box({"a": {"x": ("u", "a"), "y": ("u", "a"), "z": ("u", "a")},
              "b": {"x": ("u", "b"), "y": ("v", "b"), "z": ("u", "a")},
              "c": {"x": ("v", "c"), "y": ("u", "c"), "z": ("u", "c")},
              "d": {"x": ("v", "d"), "y": ("u", "c"), "z": ("v", "d")}}, {"q": []})


def plainly_told(box, marks, traces, depth):
    """Whether some tree of at most so much depth tells the mark, gone through by the rule."""
    if len({marks[first] for first, _ in traces}) == 1:
        return True
    if depth == 0:
        return False
    for letter in box.letters():
        parts = {}
        for first, now in traces:
            sign, after = box.move(now, letter)
            parts.setdefault(sign, []).append((first, after))
        if all(plainly_told(box, marks, part, depth - 1) for part in parts.values()):
            return True
    return False


def plainly_tree(box, marks, traces, tree):
    """Whether any object is a tree that tells the mark, by the rule."""
    if type(tree) is int:
        return all(marks[first] == tree for first, _ in traces)
    if not isinstance(tree, (list, tuple)) or len(tree) != 2 or not isinstance(tree[1], dict):
        return False
    if not isinstance(tree[0], str) or tree[0] not in box.letters():
        return False
    parts = {}
    for first, now in traces:
        sign, after = box.move(now, tree[0])
        parts.setdefault(sign, []).append((first, after))
    return set(parts) == set(tree[1]) and all(plainly_tree(box, marks, parts[sign], tree[1][sign]) for sign in parts)


def plainly_hard(box, marks, thing):
    """A hard list by its rule, of lists of pairs of states."""
    if not thing or any(first != now for first, now in thing[0]):
        return False
    for traces in thing:
        if len(set(traces)) < len(traces) or len({marks[first] for first, _ in traces}) < 2:
            return False
        for letter in box.letters():
            parts = {}
            for first, now in traces:
                sign, after = box.move(now, letter)
                parts.setdefault(sign, set()).add((first, after))
            if not any(set(other) <= part for part in parts.values() for other in thing):
                return False
    return True


def depth_of(tree):
    return 0 if isinstance(tree, int) else 1 + max(depth_of(part) for part in tree[1].values())


def begins(box):
    return [(state, state) for state in box.states()]


def bent_trees(rng, box, tree):
    """Trees like one, but for one thing each."""
    yield from (None, "a", (), [], {}, (tree,), (tree, tree), True)
    if isinstance(tree, int):
        yield from (tree + 1, str(tree), bool(tree), (box.letters()[0], {}), (tree, {}))
        return
    letter, parts = tree
    yield from ((letter, {}), ("zz", parts), (None, parts), (letter, parts, 1), (letter, list(parts.items())),
                (letter, {**parts, "zz": 1}), (letter, {**parts, 1: 1}))
    for other in box.letters():
        yield (other, parts)
    for sign in parts:
        yield (letter, {one: parts[one] for one in parts if one != sign})
        for bent in bent_trees(rng, box, parts[sign]):
            if rng.random() < 0.5:
                yield (letter, {**parts, sign: bent})


class TestFirst(unittest.TestCase):
    def test_against_all_trees(self):
        rng = random.Random(70)
        seen = {True: 0, False: 0}
        for _ in range(500):
            box = Box(drawn_moves(rng, 4, rng.randint(1, 2)), {"q": []})
            most = rng.choice((1, 2, 3))
            marks = {state: rng.randint(-1, most) for state in rng.sample(box.states(), len(box.states()))}
            tree, hard = first_tree(box, marks), hard_list(box, marks)
            seen[tree is None] += 1
            self.assertEqual(tree is None, hard is not None)
            if tree is None:
                self.assertFalse(plainly_told(box, marks, begins(box), 5))
                self.look_at_hard(rng, box, marks, hard)
            else:
                self.look_at_tree(rng, box, marks, tree)
            self.look_at_row(box, marks, tree)
        self.assertGreater(min(seen.values()), 100)

    def look_at_tree(self, rng, box, marks, tree):
        depth = depth_of(tree)
        self.assertTrue(plainly_told(box, marks, begins(box), depth))
        self.assertFalse(depth > 0 and plainly_told(box, marks, begins(box), depth - 1))
        self.assertIs(is_first_tree(box, marks, tree), True)
        self.assertTrue(plainly_tree(box, marks, begins(box), tree))
        self.assertIs(is_hard_list(box, marks, [begins(box)]), False)
        if depth > 0:
            self.assertIs(type(tree), tuple)
            self.assertIs(is_first_tree(box, marks, list(tree)), True)
        for bent in bent_trees(rng, box, tree):
            self.assertIs(is_first_tree(box, marks, bent), plainly_tree(box, marks, begins(box), bent), bent)
        # What more is put in does no harm, if it leaves apart what is told.
        if len({marks[state] for state in marks}) == 1:
            letter = box.letters()[0]
            signs = {box.move(state, letter)[0] for state in box.states()}
            self.assertIs(is_first_tree(box, marks, (letter, {sign: tree for sign in signs})), True)

    def look_at_row(self, box, marks, tree):
        rows = all_rows(box.letters(), 5)
        right = [row for row in rows if self.tells_first(box, marks, row)]
        told = first_row(box, marks)
        if right:
            self.assertEqual(told, right[0])
            self.assertIsNotNone(tree)
        else:
            self.assertTrue(told is None or len(told) > 5)
        if told is not None:
            self.assertIs(type(told), list)
            self.assertTrue(self.tells_first(box, marks, told))

    def tells_first(self, box, marks, row):
        seen = {}
        return all(seen.setdefault(box.out(state, row), marks[state]) == marks[state] for state in box.states())

    def look_at_hard(self, rng, box, marks, hard):
        self.assertIs(type(hard), list)
        self.assertTrue(all(type(traces) is list and type(trace) is tuple for traces in hard for trace in traces))
        self.assertIs(is_hard_list(box, marks, hard), True)
        self.assertTrue(plainly_hard(box, marks, hard))
        turned = [hard[0], *hard[:0:-1]]
        self.assertIs(is_hard_list(box, marks, tuple(tuple(list(trace) for trace in traces) for traces in turned)), True)
        self.assertIs(is_hard_list(box, marks, [begins(box), *hard]), True)
        states = box.states()
        for place, traces in enumerate(hard):
            for bent in (traces[1:], [*traces, traces[0]], [*traces, (states[0], states[-1])], [], traces[:1],
                         [(now, first) for first, now in traces], [(first, first) for first, _ in traces]):
                thing = [*hard[:place], bent, *hard[place + 1:]]
                self.assertIs(is_hard_list(box, marks, thing), plainly_hard(box, marks, thing))
            for bent in ([*traces, (states[0], "zz")], [*traces, (states[0],)], [*traces, None], None, {}, "ab",
                         [*traces, (states[0], states[0], states[0])], [*traces, (states[0], [])]):
                self.assertIs(is_hard_list(box, marks, [*hard[:place], bent, *hard[place + 1:]]), False)
            thing = hard[:place] + hard[place + 1:]
            self.assertIs(is_hard_list(box, marks, thing), plainly_hard(box, marks, thing))
        for bent in ([], (), None, {}, hard[0], "ab"):
            self.assertIs(is_hard_list(box, marks, bent), False)
        for _ in range(4):
            drawn = rng.choice([state for state in states])
            self.assertIs(is_first_tree(box, marks, marks[drawn]), False)

    def test_examples(self):
        # y first would bring a and b together; x first tells a.
        self.assertEqual(first_tree(marks=MARKS, box=BOX), ("x", {"v": 1, "u": ("y", {"u": 2, "v": 3})}))
        self.assertEqual(first_row(marks=MARKS, box=BOX), ["x", "y"])
        self.assertEqual(first_tree(BOX, {"a": 5, "b": 5, "c": 5}), 5)
        self.assertEqual(first_row(BOX, {"a": 5, "b": 5, "c": 5}), [])
        self.assertIsNone(hard_list(BOX, {"a": 5, "b": 5, "c": 5}))
        self.assertIs(is_first_tree(BOX, {"a": 5, "b": 5, "c": 5}, ("x", {"u": 5, "v": 5})), True)
        one = Box({"s": {"x": ("u", "s")}}, {"q": []})
        self.assertEqual((first_tree(one, {"s": -4}), first_row(one, {"s": -4})), (-4, []))
        alike = Box({"s": {"x": ("u", "t")}, "t": {"x": ("u", "s")}}, {"q": []})
        self.assertIsNone(first_tree(alike, {"s": 1, "t": 0}))
        self.assertIsNone(first_row(alike, {"s": 1, "t": 0}))
        self.assertIs(is_hard_list(thing=[[("s", "s"), ("t", "t")], [("s", "t"), ("t", "s")]], marks={"s": 1, "t": 0},
                                   box=alike), True)
        self.assertIs(is_hard_list(alike, {"s": 1, "t": 0}, [[("s", "t"), ("t", "s")], [("s", "s"), ("t", "t")]]), False)

    def test_tree_without_row(self):
        marks = {state: place for place, state in enumerate("abcd")}
        self.assertEqual(first_tree(BRANCH, marks), ("x", {"u": ("y", {"u": 0, "v": 1}), "v": ("z", {"u": 2, "v": 3})}))
        self.assertIsNone(first_row(BRANCH, marks))
        self.assertIsNone(hard_list(BRANCH, marks))
        self.assertEqual(first_row(BRANCH, {"a": 0, "b": 1, "c": 1, "d": 1}), ["x", "y"])
        # Where z has been put in, a and b are one for ever.
        self.assertIs(is_hard_list(BRANCH, marks, [[("a", "a"), ("b", "a")]]), False)
        rng = random.Random(71)
        for _ in range(300):
            box = Box(drawn_moves(rng, 5, 3), {"q": []})
            marks = {state: place for place, state in enumerate(box.states())}
            if first_tree(box, marks) is not None:
                self.assertEqual(alike_states(box), [[state] for state in box.states()])
                self.look_at_row(box, marks, first_tree(box, marks))

    def test_any_objects(self):
        for thing in any_objects():
            self.assertIs(is_first_tree(BOX, MARKS, thing), False)
            self.assertIs(is_hard_list(BOX, MARKS, thing), False)
            self.assertIs(is_first_tree(BOX, {"a": 1, "b": 1, "c": 1}, thing), thing == 1 and thing is not True)

    def test_bad_marks(self):
        for work, rest in ((first_tree, ()), (is_first_tree, (3,)), (first_row, ()), (hard_list, ()),
                           (is_hard_list, (3,))):
            for thing in [*any_objects(), {"a": 1, "b": 2}, {**MARKS, "d": 1}, {**MARKS, "a": True},
                          {**MARKS, "a": None}, {**MARKS, "a": "1"}, {**MARKS, 1: 1}, [1, 2, 3], list(MARKS)]:
                self.assertIs(caught(BadMarks, work, BOX, thing, *rest).thing, thing)


if __name__ == "__main__":
    unittest.main()
