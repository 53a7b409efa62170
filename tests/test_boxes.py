"""Promises [63] to [66]."""

import random
import unittest

from tests.helpers import any_objects, caught, drawn_box, drawn_names
from twoworlds.boxes import Box
from twoworlds.errors import (BadAnswers, BadAsk, BadBox, BadKnown, BadPlan, BadPut, BadWorld, NoLetter, NoQuestion,
                              NoState)

MOVES = {"p": {"x": ("u", "q"), "y": ("v", "p")}, "q": {"y": ["u", "p"], "x": ("u", "r")},
         "r": {"x": ("u", "r"), "y": ("v", "q")}}
QUESTIONS = {"yy": ("y", "y"), "x": ["x"], "no": [], "end": (["x"], {"r": 2, "p": 0, "q": 1}),
             "same": [(), {"p": 1, "q": 5, "r": 1}]}
BOX = Box(MOVES, QUESTIONS)


def plainly_led(box, state, row):
    signs = ()
    for letter in row:
        sign, state = box.move(state, letter)
        signs += (sign,)
    return signs, state


class TestMaking(unittest.TestCase):
    def test_making(self):
        moves = {state: dict(MOVES[state]) for state in MOVES}
        questions = {"a": ["x", "y"], "b": [["x"], {"p": 1, "q": 2, "r": 3}]}
        box = Box(questions=questions, moves=moves)
        moves["p"]["x"] = ("z", "p")
        moves["q"]["y"][0] = "zz"
        questions["a"].append("x")
        questions["b"][0].append("x")
        questions["b"][1]["q"] = 9
        MOVES["q"]["y"][0] = "u"
        for told in (box.states(), box.letters(), box.questions()):
            told.clear()
        self.assertEqual((box.states(), box.letters(), box.questions()), (["p", "q", "r"], ["x", "y"], ["a", "b"]))
        self.assertEqual(box.move("p", "x"), ("u", "q"))
        self.assertEqual(box.move("q", "y"), ("u", "p"))
        self.assertIs(type(box.move("q", "y")), tuple)
        self.assertEqual(box.answers("p"), {"a": ("u", "u"), "b": 2})
        self.assertEqual(Box({"s": {"t": ("s", "s")}}, {"s": ()}).answers("s"), {"s": ()})

    def test_equality(self):
        self.assertTrue(BOX == Box(MOVES, QUESTIONS))
        self.assertFalse(BOX != Box(MOVES, QUESTIONS))
        same = Box({state: {letter: tuple(move) for letter, move in MOVES[state].items()} for state in MOVES},
                   {**QUESTIONS, "yy": ["y", "y"], "end": [("x",), {"p": 0, "q": 1, "r": 2}]})
        self.assertTrue(BOX == same)
        turned = {"p": dict(list(MOVES["p"].items())[::-1]), "q": MOVES["q"], "r": MOVES["r"]}
        self.assertFalse(BOX == Box(turned, QUESTIONS))
        turned = {"p": MOVES["p"], "q": dict(list(MOVES["q"].items())[::-1]), "r": MOVES["r"]}
        self.assertTrue(BOX == Box(turned, QUESTIONS))
        self.assertFalse(BOX == Box(dict(list(MOVES.items())[::-1]), QUESTIONS))
        self.assertFalse(BOX == Box(MOVES, dict(list(QUESTIONS.items())[::-1])))
        for name, thing in (("yy", ["y", "x"]), ("yy", (["y", "y"], {"p": 1, "q": 1, "r": 1})), ("end", ["x"]),
                            ("end", (["x"], {"r": 2, "p": 0, "q": 0})), ("end", (["y"], {"r": 2, "p": 0, "q": 1}))):
            self.assertFalse(BOX == Box(MOVES, {**QUESTIONS, name: thing}))
        self.assertFalse(BOX == Box({**MOVES, "r": {"x": ("v", "r"), "y": ("v", "q")}}, QUESTIONS))
        self.assertFalse(BOX == Box({**MOVES, "r": {"x": ("u", "p"), "y": ("v", "q")}}, QUESTIONS))
        for thing in any_objects():
            self.assertFalse(BOX == thing)

    def test_bad_boxes(self):
        good = {"x": ("u", "p"), "y": ("u", "q")}
        for thing in any_objects():
            if not isinstance(thing, dict) or not thing:
                self.assertIsNone(caught(BadBox, Box, thing, 3).state)
            self.assertEqual(caught(BadBox, Box, {"p": good, "q": thing, "r": 3}, 3).state, "q")
            self.assertEqual(caught(BadBox, Box, {"p": thing, "q": good}, 3).state, "p")
            if thing != ("a", "b") and thing != ["a", "a"]:
                bad = {"x": ("u", "p"), "y": thing}
                self.assertEqual(caught(BadBox, Box, {"p": good, "q": bad, "r": 3}, 3).state, "q")
        for bad in ({"x": ("u", "p")}, {**good, "z": ("u", "p")}, {"x": ("u", "p"), "z": ("u", "p")}, {},
                    {**good, "x": ("u", "s")}, {**good, "x": ("U", "p")}, {**good, "x": ("", "p")},
                    {**good, "x": ("u", "p", "q")}, {**good, "x": ("u",)}, {**good, "x": ("u", ["p"])},
                    {**good, "x": (1, "p")}, {**good, "x": ("u", None)}, {**good, "x": "up"}, {**good, 1: ("u", "p")}):
            self.assertEqual(caught(BadBox, Box, {"p": good, "q": bad}, 3).state, "q", bad)
            self.assertEqual(caught(BadBox, Box, {"p": {**good, "y": ("u", "p")}, "q": bad}, 3).state, "q", bad)
        for bad in ({}, {1: ("u", "p")}, {"X": ("u", "p")}, {"x": ("u", "q")}, {None: ("u", "p"), "x": ("u", "p")}):
            self.assertEqual(caught(BadBox, Box, {"p": bad}, 3).state, "p")
        for name in (1, None, True, "", "A", "a" * 41, ("a",), "a b"):
            self.assertEqual(caught(BadBox, Box, {"p": good, "q": good, name: good}, 3).state, name)
            self.assertEqual(caught(BadBox, Box, {name: good, "q": good}, 3).state, name)
        # A key that is no name is no state to which a pair could lead.
        self.assertEqual(caught(BadBox, Box, {"p": {"x": ("u", "A")}, "A": {"x": ("u", "p")}}, 3).state, "p")

    def test_bad_asks(self):
        marks = {"p": 1, "q": 2, "r": 3}
        for thing in any_objects():
            if not isinstance(thing, dict) or not thing:
                self.assertIsNone(caught(BadAsk, Box, MOVES, thing).name)
            if not isinstance(thing, (list, tuple)) or thing:
                self.assertEqual(caught(BadAsk, Box, MOVES, {"k": ["x"], "m": thing, "n": 3}).name, "m")
                self.assertEqual(caught(BadAsk, Box, MOVES, {"k": ["x"], "m": ["x", thing], "n": 3}).name, "m")
                self.assertEqual(caught(BadAsk, Box, MOVES, {"k": ["x"], "m": (thing, marks)}).name, "m")
            self.assertEqual(caught(BadAsk, Box, MOVES, {"m": (["x"], thing)}).name, "m")
            if type(thing) is not int:
                self.assertEqual(caught(BadAsk, Box, MOVES, {"m": (["x"], {**marks, "q": thing})}).name, "m")
        for bad in (["z"], "xy", (["x"], {"p": 1, "q": 2}), (["x"], {**marks, "s": 1}), (["x"], marks, 1), (["x"],),
                    (["z"], marks), ("x", marks), (marks, ["x"]), [["x"]], ["x", ["y"]], (["x"], {**marks, 1: 1})):
            self.assertEqual(caught(BadAsk, Box, MOVES, {"k": ["x"], "m": bad}).name, "m", bad)
        for name in (1, None, True, "", "A", "a" * 41, ("a",)):
            self.assertEqual(caught(BadAsk, Box, MOVES, {"k": ["x"], name: ["x"], "z": 3}).name, name)


class TestWorlds(unittest.TestCase):
    def test_answers(self):
        self.assertEqual(list(BOX.answers(world="q").items()),
                         [("yy", ("u", "v")), ("x", ("u",)), ("no", ()), ("end", 2), ("same", 5)])
        self.assertEqual(BOX.answers("p"), {"yy": ("v", "v"), "x": ("u",), "no": (), "end": 1, "same": 1})
        self.assertIn(BOX.home(), BOX.states())
        self.assertEqual(Box({"s": {"t": ("s", "s")}}, {"s": ()}).home(), "s")
        for thing in any_objects():
            self.assertIs(caught(BadWorld, BOX.answers, thing).thing, thing)

    def test_moves(self):
        self.assertEqual(BOX.move(letter="y", state="r"), ("v", "q"))
        self.assertEqual(BOX.out("p", ["x", "y", "y"]), ("u", "u", "v"))
        self.assertEqual(BOX.end(row=("x", "y", "y"), state="p"), "p")
        self.assertEqual((BOX.out("p", []), BOX.end("p", ())), ((), "p"))
        rng = random.Random(66)
        for _ in range(100):
            box = drawn_box(rng)
            for state in box.states():
                row = [rng.choice(box.letters()) for _ in range(rng.randint(0, 12))]
                self.assertEqual((box.out(state, row), box.end(state, row)), plainly_led(box, state, row))
        for thing in any_objects():
            self.assertIs(caught(NoState, BOX.move, thing, "z").name, thing)
            self.assertIs(caught(NoLetter, BOX.move, "p", thing).name, thing)
            for work in (BOX.out, BOX.end):
                self.assertIs(caught(NoState, work, thing, "z").name, thing)
                if not isinstance(thing, (list, tuple)):
                    self.assertEqual(caught(BadPut, work, "p", thing).index, 0)
                self.assertEqual(caught(BadPut, work, "p", ["x", "y", thing, 3]).index, 2)
        self.assertEqual(caught(BadPut, BOX.out, "p", "xy").index, 0)


class TestTold(unittest.TestCase):
    def test_examples(self):
        self.assertIs(BOX.is_plan(["yy"], "same", [(["p", "r"], 1), (["q"], 5)]), True)
        self.assertIsNone(BOX.plan(["end"], "same"))
        self.assertEqual(BOX.plan([], "x"), [(["p", "q", "r"], ("u",))])
        self.assertIsNone(BOX.plan(["same"], "end"))
        self.assertIn(BOX.apart(["same"], "end"), (("p", "r"), ("r", "p")))
        self.assertIs(BOX.are_apart(thing=["r", "p"], asked="end", known=("same",)), True)
        for thing in (["p", ("q")], ("p", "q"), ("p",), ("p", "r", "q"), "pr", ("p", "s"), ("p", None), ("p", "p")):
            self.assertIs(BOX.are_apart(["same"], "end", thing), False)
        cells = [(["q", "p", "r"], ("u",))]
        self.assertIs(BOX.is_plan(["end"], "x", cells), True)
        self.assertIs(BOX.is_plan(["end"], "x", ((("p",), ["u"]), [["r", "q"], ("u",)])), True)
        self.assertIs(BOX.is_plan(["end"], "x", [(["q", "p"], ("u",)), (["r"], ("u",))]), False)
        self.assertIs(BOX.is_plan(["x"], "x", [(["q", "p"], ("u",)), (["r"], ("u",))]), False)

    def test_drawn(self):
        rng = random.Random(65)
        for _ in range(500):
            box = drawn_box(rng, 5, 2)
            known, asked = drawn_names(rng, box.questions()), rng.choice(box.questions())
            plan, pair = box.plan(known, asked), box.apart(known, asked)
            rows = {state: box.answers(state) for state in box.states()}
            seen = {}
            right = all(seen.setdefault(tuple(row[name] for name in known), row[asked]) == row[asked]
                        for row in rows.values())
            self.assertEqual((plan is not None, pair is None, box.is_told(known, asked)), (right,) * 3)
            for one in rows:
                for other in rows:
                    self.assertIs(box.are_apart(known, asked, (one, other)), rows[one][asked] != rows[other][asked]
                                  and all(rows[one][name] == rows[other][name] for name in known))
            if plan is None:
                self.assertIs(type(pair), tuple)
                self.assertIs(box.are_apart(known, asked, pair), True)
                self.assertIs(box.is_plan(known, asked, [([state], rows[state][asked]) for state in rows]), False)
            else:
                self.look_at_plan(rng, box, rows, known, asked, plan)

    def look_at_plan(self, rng, box, rows, known, asked, plan):
        self.assertIs(type(plan), list)
        self.assertTrue(all(type(cell) is tuple and type(cell[0]) is list for cell in plan))
        joined = {}
        for states, answer in plan:
            joined.setdefault(answer, []).extend(states[::-1])
        for good in (plan, plan[::-1], tuple((tuple(states), list(answer) if isinstance(answer, tuple) else answer)
                                             for states, answer in plan), [(joined[key], key) for key in joined]):
            self.assertIs(box.is_plan(known, asked, good), True)
            for state, row in rows.items():
                told = box.found(known, asked, good, {name: row[name] for name in known})
                self.assertEqual((told, type(told)), (row[asked], type(row[asked])))
        state = rng.choice(box.states())
        for bent in ([*plan, ([], plan[0][1])], [*plan, ([state], rows[state][asked])], plan[1:], {}, None, [plan],
                     [*plan, (["zz"], 1)], [*plan, 3], [(states, answer, 1) for states, answer in plan],
                     [("".join(states), answer) for states, answer in plan], [*plan, ([None], 0)],
                     [(states, [answer]) for states, answer in plan], [(states, None) for states, answer in plan],
                     [([*states, states[0]], answer) for states, answer in plan]):
            self.assertIs(box.is_plan(known, asked, bent), False, bent)
        for states, answer in plan:
            if isinstance(answer, int):
                for other in (bool(answer), answer + 1, str(answer)):
                    bent = [cell if cell[0] != states else (states, other) for cell in plan]
                    self.assertIs(box.is_plan(known, asked, bent), False)
            if len(states) > 1:
                bent = [cell for cell in plan if cell[0] != states] + [(states[1:], answer), (states[:1], answer)]
                self.assertIs(box.is_plan(known, asked, bent), False)

    def test_any_objects(self):
        box = Box({"a": {"x": ("u", "a")}, "b": {"x": ("v", "b")}}, {"a": ["x"], "b": ([], {"a": 1, "b": 1})})
        for thing in any_objects():
            self.assertIs(box.is_plan([], "b", thing), False)
            self.assertIs(caught(BadPlan, box.found, [], "b", thing, 3).thing, thing)
            self.assertIs(box.are_apart([], "a", thing), thing == ("a", "b"))
        self.assertIs(box.is_plan([], "b", [(["b", "a"], 1)]), True)

    def test_found(self):
        plan, known = BOX.plan(["same", "end", "yy"], "x"), ["same", "end", "yy"]
        answers = {"same": 5, "end": 2, "yy": ("u", "v")}
        self.assertEqual(BOX.found(answers=answers, plan=plan, asked="x", known=known), ("u",))
        self.assertEqual(BOX.found(known, "x", plan, {**answers, "yy": ["u", "v"], "zz": 1}), ("u",))
        for bad in ({**answers, "same": 1}, {**answers, "same": True}, {**answers, "yy": "uv"}, {**answers, "yy": None},
                    {**answers, "yy": ("u", "v", "v")}, {"same": 5, "end": 2}, {}, None, [], {**answers, "end": "2"},
                    {**answers, "end": 7}, {**answers, "yy": {}}):
            self.assertIs(caught(BadAnswers, BOX.found, known, "x", plan, bad).thing, bad)
        self.assertIs(caught(BadAnswers, BOX.found, [], "x", BOX.plan([], "x"), []).thing is None, False)
        self.assertEqual(BOX.found([], "x", BOX.plan([], "x"), {}), ("u",))

    def test_order_of_errors(self):
        for work, rest in [(BOX.is_told, ()), (BOX.plan, ()), (BOX.is_plan, (3,)), (BOX.found, (3, 3)),
                           (BOX.apart, ()), (BOX.are_apart, (3,))]:
            for thing in any_objects():
                if not isinstance(thing, (list, tuple)):
                    self.assertEqual(caught(BadKnown, work, thing, "zz", *rest).index, 0)
                self.assertEqual(caught(BadKnown, work, ["yy", "x", thing], "zz", *rest).index, 2)
                self.assertIs(caught(NoQuestion, work, ["yy"], thing, *rest).name, thing)
            self.assertEqual(caught(BadKnown, work, ["yy", "x", "yy"], "zz", *rest).index, 2)


if __name__ == "__main__":
    unittest.main()
