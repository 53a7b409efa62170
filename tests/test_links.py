"""Promise [72]: two boxes behind one another, and beside one another."""

import random
import unittest

from tests.helpers import all_rows, caught, drawn_moves
from twoworlds.boxes import Box
from twoworlds.errors import BadLink, UnlikeLetters
from twoworlds.links import beside_moves, linked_moves

ONE = Box({"p": {"x": ("k", "q"), "y": ("l", "p")}, "q": {"x": ("l", "q"), "y": ("l", "p")}}, {"a": []})
OTHER = Box({"s": {"l": ("u", "t"), "k": ("v", "s")}, "r": {"k": ("u", "r"), "l": ("v", "r")},
             "t": {"k": ("u", "r"), "l": ("v", "s")}}, {"a": []})


class TestLinks(unittest.TestCase):
    def test_linked(self):
        moves = linked_moves(other=OTHER, one=ONE)
        self.assertEqual(list(moves), ["p.s", "p.r", "p.t", "q.s", "q.r", "q.t"])
        self.assertTrue(all(list(moves[state]) == ["x", "y"] for state in moves))
        self.assertEqual(moves["p.s"], {"x": ("v", "q.s"), "y": ("u", "p.t")})
        self.assertEqual(moves["q.t"], {"x": ("v", "q.s"), "y": ("v", "p.s")})
        self.assertIs(type(moves["p.s"]["x"]), tuple)
        moves["p.s"]["x"] = 3
        self.assertEqual(linked_moves(ONE, OTHER)["p.s"]["x"], ("v", "q.s"))
        box = Box(linked_moves(ONE, OTHER), {"a": ["x"], "b": (["y"], {name: 1 for name in moves})})
        self.assertEqual(box.out("p.s", ["x", "y", "y"]), ("v", "u", "v"))
        self.assertEqual(box.end("p.s", ["x", "y", "y"]), "p.s")

    def test_drawn(self):
        rng = random.Random(72)
        for _ in range(60):
            one = Box(drawn_moves(rng, 4, 2, ("y", "x")), {"a": []})
            other = Box(drawn_moves(rng, 4, 2), {"a": []})
            beside = Box({state: {letter: (rng.choice("uv"), rng.choice(other.states())) for letter in one.letters()}
                          for state in other.states()}, {"a": []})
            both = Box(beside_moves(one, beside), {"a": []})
            self.assertEqual(both.states(), [f"{s}.{t}" for s in one.states() for t in beside.states()])
            self.assertEqual(both.letters(), one.letters())
            bad = [one.move(state, letter)[0] for state in one.states() for letter in one.letters()
                   if one.move(state, letter)[0] not in other.letters()]
            if bad:
                self.assertEqual(caught(BadLink, linked_moves, one, other).sign, bad[0])
            linked = None if bad else Box(linked_moves(one, other), {"a": []})
            for row in all_rows(one.letters(), 4):
                for first in one.states():
                    signs = one.out(first, row)
                    for second in beside.states():
                        self.assertEqual(both.out(f"{first}.{second}", row), tuple(
                            f"{sign}.{out}" for sign, out in zip(signs, beside.out(second, row))))
                        self.assertEqual(both.end(f"{first}.{second}", row),
                                         f"{one.end(first, row)}.{beside.end(second, row)}")
                    for second in [] if bad else other.states():
                        self.assertEqual(linked.out(f"{first}.{second}", row), other.out(second, signs))
                        self.assertEqual(linked.end(f"{first}.{second}", row),
                                         f"{one.end(first, row)}.{other.end(second, signs)}")

    def test_beside(self):
        moves = beside_moves(other=ONE, one=ONE)
        self.assertEqual(list(moves), ["p.p", "p.q", "q.p", "q.q"])
        self.assertEqual(moves["p.q"], {"x": ("k.l", "q.q"), "y": ("l.l", "p.p")})
        self.assertIs(type(moves["p.q"]["x"]), tuple)

    def test_errors(self):
        for letters in (["y", "x"], ["x"], ["x", "y", "z"], ["x", "z"]):
            other = Box({"s": {letter: ("u", "s") for letter in letters}}, {"a": []})
            self.assertIsNotNone(caught(UnlikeLetters, beside_moves, ONE, other))
        self.assertEqual(caught(BadLink, linked_moves, OTHER, ONE).sign, "u")
        later = Box({"p": {"x": ("k", "p"), "y": ("k", "p")}, "q": {"x": ("n", "p"), "y": ("m", "p")}}, {"a": []})
        self.assertEqual(caught(BadLink, linked_moves, one=later, other=OTHER).sign, "n")


if __name__ == "__main__":
    unittest.main()
