"""Promise [83]."""

import random
import unittest

from tests.helpers import any_objects, drawn_class, drawn_code
from twoworlds.coders import is_class, is_code

CODE = {"s": {"a": ("t", "0z9"), "b": ("s", "")}, "t": {"b": ["s", "a"], "a": ("t", "10")}}
CLASS = {"s": (3, {"a": "t", "b": "s"}), "t": [-1, {"b": "s", "a": "t"}]}


class TestCodes(unittest.TestCase):
    def test_drawn(self):
        rng = random.Random(83)
        for _ in range(100):
            letters = "bca"[:rng.randint(1, 3)]
            self.assertIs(is_code(letters, drawn_code(rng, letters, most=3)), True)
            self.assertIs(is_class(letters, drawn_class(rng, letters)), True)

    def test_codes(self):
        self.assertIs(is_code(thing=CODE, letters="ab"), True)
        self.assertIs(is_code("ba", CODE), True)
        for letters in ("a", "b", "abc", "ac"):
            self.assertIs(is_code(letters, CODE), False)
        for bad in (("t", "0000"), ("t", "A"), ("t", " "), ("t", "."), ("t", "\n"), ("z", "0"), ("t",), ("t", "0", "0"),
                    "t0", ("t", None), ("t", ["0"]), (None, "0"), (["t"], "0"), {"t": "0"}, ("", "0"), ("t", 0),
                    ("T", "0"), ("t", True)):
            self.assertIs(is_code("ab", {**CODE, "t": {"a": ("t", "1"), "b": bad}}), False)
            self.assertIs(is_code("ab", {**CODE, "s": {"a": bad, "b": ("t", "1")}}), False)
        for name in ("T", "", "a b", 1, None, True, ("t",), "t" * 41):
            self.assertIs(is_code("a", {"s": {"a": ("s", "")}, name: {"a": ("s", "")}}), False)
            self.assertIs(is_code("a", {name: {"a": (name, "")}}), False)
        for bad in ({"a": ("t", "")}, {}, {**CODE["s"], "c": ("t", "")}, {"a": ("t", ""), "c": ("t", "")}, [], None,
                    [("t", "0"), ("s", "")], {"a": ("t", ""), 1: ("t", "")}):
            self.assertIs(is_code("ab", {**CODE, "t": bad}), False)

    def test_classes(self):
        self.assertIs(is_class(thing=CLASS, letters="ab"), True)
        self.assertIs(is_class("ba", CLASS), True)
        for letters in ("a", "b", "abc", "ac"):
            self.assertIs(is_class(letters, CLASS), False)
        steps = {"a": "t", "b": "s"}
        for bad in ((True, steps), (None, steps), ("1", steps), ((1,), steps), (1,), (1, steps, 1), (1, {"a": "t"}), (1, {}),
                    (1, {**steps, "c": "t"}), (1, {"a": "t", "c": "t"}), (1, {"a": "t", "b": "z"}), (steps, 1),
                    (1, {"a": "t", "b": None}), (1, {"a": "t", "b": ["s"]}), (1, ["t", "s"]), (1, "ts"), steps, 1, None,
                    {1: steps, 2: steps}, (1, {"a": "t", 1: "s"})):
            self.assertIs(is_class("ab", {**CLASS, "t": bad}), False)
        for name in ("T", "", "a b", 1, None, True, ("t",), "t" * 41):
            self.assertIs(is_class("a", {"s": (0, {"a": "s"}), name: (0, {"a": "s"})}), False)
        self.assertIs(is_class("a", {"x.y": (10 ** 14, {"a": "x.y"})}), True)

    def test_any_objects(self):
        for thing in any_objects():
            self.assertIs(is_code("a", thing), False)
            self.assertIs(is_class("a", thing), False)
            self.assertIs(is_code("a", {"a": thing}), False)
            self.assertIs(is_class("a", {"a": thing}), False)
            self.assertIs(is_code("a", {"a": {"a": thing}}), thing in (["a", "a"], ("a", "b")))
            self.assertIs(is_class("a", {"a": (0, thing)}), thing == {"a": "a"})
            self.assertIs(is_class("a", {"a": (thing, {"a": "a"})}), type(thing) is int)


if __name__ == "__main__":
    unittest.main()
