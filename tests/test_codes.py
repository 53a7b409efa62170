"""Promises [84] to [88], and [91]."""

import random
import unittest

from tests.helpers import all_words, any_objects, caught, drawn_class, drawn_code, drawn_codes, drawn_names
from twoworlds.codes import Codes
from twoworlds.errors import (BadAnswers, BadClass, BadCode, BadKnown, BadLetters, BadNumber, BadPlan, BadWorld,
                              NoQuestion, Uneven)

CODE = {"s": {"a": ("t", "01"), "b": ["s", ""]}, "t": {"b": ("s", "1"), "a": ("t", "0")}}
EVEN = {"e": {"a": ("e", "0"), "b": ("f", "1")}, "f": {"a": ("e", "1"), "b": ("e", "1")}}
CLASS = {"o": (3, {"b": "o", "a": "p"}), "p": [-1, {"a": "o", "b": "p"}]}
FIELD = Codes("ab", {"c": CODE}, {"k": CLASS})


def plain_answers(field, word):
    """What a word shows and how it is marked, by the codes and classes alone."""
    out = {}
    for name in field.questions():
        try:
            code, shown = field.code(name), ""
            state = list(code)[0]
            for letter in word:
                state, more = code[state][letter]
                shown += more
            out[name] = shown
        except NoQuestion:
            marked = field.class_of(name)
            state = list(marked)[0]
            for letter in word:
                state = marked[state][1][letter]
            out[name] = marked[state][0]
    return out


class Rows:
    """The rows of two words, by the plain rules, for the machines of known and of asked."""

    def __init__(self, field, known, asked):
        self.letters, self.moves, self.marks, self.ends = field.letters(), [], [], {}
        for name in [*known, asked]:
            try:
                self.moves.append(field.code(name))
                self.marks.append(None)
            except NoQuestion:
                marked = field.class_of(name)
                self.moves.append({state: {letter: (marked[state][1][letter], "") for letter in field.letters()}
                                   for state in marked})
                self.marks.append({state: marked[state][0] for state in marked})

    def first(self):
        spot = tuple(list(moves)[0] for moves in self.moves)
        return (spot, spot, ("", ""), ("", ""))

    def onward(self, row):
        one, other, shown, asked = row
        out = []
        for side in (0, 1):
            if len(shown[side]) <= len(shown[1 - side]):
                for letter in self.letters:
                    spot, more = [], []
                    for moves, state in zip(self.moves, row[side]):
                        after, sign = moves[state][letter]
                        spot.append(after)
                        more.append(sign)
                    shows, tells = list(shown), list(asked)
                    shows[side] += "".join(more[:-1])
                    tells[side] += more[-1]
                    while shows[0] and shows[1] and shows[0][0] == shows[1][0]:
                        shows = [shows[0][1:], shows[1][1:]]
                    while tells[0] and tells[1] and tells[0][0] == tells[1][0]:
                        tells = [tells[0][1:], tells[1][1:]]
                    if not (shows[0] and shows[1]):
                        spots = [one, other]
                        spots[side] = tuple(spot)
                        out.append((*spots, tuple(shows), tuple(tells)))
        return out

    def marked(self, spot):
        return [marks[state] for marks, state in zip(self.marks[:-1], spot) if marks is not None]

    def is_end(self, row):
        return row[2] == ("", "") and self.marked(row[0]) == self.marked(row[1])

    def passes(self, row):
        marks = self.marks[-1]
        return row[3] == ("", "") and (marks is None or marks[row[0][-1]] == marks[row[1][-1]])

    def can_end(self, row):
        node = row[:3]
        if node not in self.ends:
            seen, todo = {node}, [(*node, ("", ""))]
            while todo and not self.is_end(todo[-1]):
                for after in self.onward((*todo.pop()[:3], ("", ""))):
                    if after[:3] not in seen:
                        seen.add(after[:3])
                        todo.append((*after[:3], ("", "")))
            self.ends[node] = bool(todo)
        return self.ends[node]

    def is_plan(self, rows):
        inside = set(rows)
        for row in rows:
            if self.can_end(row):
                if row[3][0] and row[3][1] or self.is_end(row) and not self.passes(row):
                    return False
                if not all(after in inside for after in self.onward(row) if self.can_end(after)):
                    return False
        return self.first() in inside

    def all_rows(self):
        todo, seen = [self.first()], {self.first()}
        for row in todo:
            for after in self.onward(row):
                if self.can_end(after) and after not in seen:
                    seen.add(after)
                    todo.append(after)
        return todo


class TestMaking(unittest.TestCase):
    def test_making(self):
        codes, classes = {"c": {state: dict(CODE[state]) for state in CODE}}, {"k": {"o": [1, {"a": "o", "b": "o"}]}}
        field = Codes(classes=classes, codes=codes, letters="ba")
        codes["c"]["s"]["a"] = ("s", "")
        codes["d"] = EVEN
        classes["k"]["o"][0] = 5
        classes["k"]["o"][1]["a"] = "zz"
        for told in (field.questions(), field.code("c"), field.code("c")["s"], field.class_of("k")):
            told.clear()
        field.class_of("k")["o"][1].clear()
        self.assertEqual((field.letters(), field.questions(), field.home()), ("ba", ["c", "k"], ""))
        self.assertEqual([(state, list(moves.items())) for state, moves in field.code(name="c").items()], [
            ("s", [("b", ("s", "")), ("a", ("t", "01"))]), ("t", [("b", ("s", "1")), ("a", ("t", "0"))])])
        self.assertEqual(list(field.class_of(name="k").items()), [("o", (1, {"b": "o", "a": "o"}))])
        self.assertEqual(list(field.class_of("k")["o"][1]), ["b", "a"])
        self.assertEqual([type(pair) for pair in field.code("c")["s"].values()], [tuple, tuple])
        self.assertEqual(Codes("z", {}, {"k": {"o": (0, {"z": "o"})}}).questions(), ["k"])
        self.assertEqual(Codes("abcdefghij", {"c": {"o": {letter: ("o", "") for letter in "abcdefghij"}}}, {}).home(), "")

    def test_names(self):
        for thing in any_objects():
            self.assertIs(caught(NoQuestion, FIELD.code, thing).name, thing)
            self.assertIs(caught(NoQuestion, FIELD.class_of, thing).name, thing)
        self.assertEqual(caught(NoQuestion, FIELD.code, "k").name, "k")
        self.assertEqual(caught(NoQuestion, FIELD.class_of, "c").name, "c")

    def test_bad_letters(self):
        for thing in [*any_objects(), "aa", "aba", "A", "a1", "a ", "a\n"]:
            if thing not in ("a", "b", "abc") or not isinstance(thing, str):
                self.assertIs(caught(BadLetters, Codes, thing, 3, 3).thing, thing)

    def test_bad_codes(self):
        for thing in any_objects():
            if not isinstance(thing, dict):
                self.assertIsNone(caught(BadCode, Codes, "ab", thing, 3).name)
            self.assertEqual(caught(BadCode, Codes, "ab", {"c": CODE, "d": thing, "e": 3}, 3).name, "d")
        for bad in ({"s": {"a": ("s", "")}}, {"s": {"a": ("s", ""), "b": ("s", "0000")}}, CLASS, {}):
            self.assertEqual(caught(BadCode, Codes, "ab", {"c": CODE, "d": bad, "e": 3}, 3).name, "d")
        for name in (1, None, True, "", "A", "a" * 41, ("a",), "a b"):
            self.assertEqual(caught(BadCode, Codes, "ab", {"c": CODE, name: CODE, "e": 3}, 3).name, name)

    def test_bad_classes(self):
        for thing in any_objects():
            if not isinstance(thing, dict) or not thing:
                self.assertIsNone(caught(BadClass, Codes, "ab", {}, thing).name)
            if not isinstance(thing, dict):
                self.assertIsNone(caught(BadClass, Codes, "ab", {"c": CODE}, thing).name)
            self.assertEqual(caught(BadClass, Codes, "ab", {"c": CODE}, {"k": CLASS, "d": thing, "e": 3}).name, "d")
        self.assertEqual(caught(BadClass, Codes, "ab", {"c": CODE}, {"k": CLASS, "c": CLASS, "e": 3}).name, "c")
        self.assertEqual(caught(BadClass, Codes, "ab", {"c": CODE, "d": CODE}, {"k": CLASS, "c": CLASS}).name, "c")
        for name in (1, None, True, "", "A", "a" * 41, ("a",), "a b"):
            self.assertEqual(caught(BadClass, Codes, "ab", {"c": CODE}, {"k": CLASS, name: CLASS, "e": 3}).name, name)
        self.assertEqual(caught(BadClass, Codes, "ab", {}, {"k": CODE}).name, "k")

    def test_uneven(self):
        self.assertEqual(caught(Uneven, Codes, "ab", {"e": EVEN, "c": CODE, "d": CODE}, {}).name, "c")
        self.assertEqual(caught(Uneven, Codes, "ab", {"c": CODE, "e": EVEN}, {"k": CLASS}).name, "c")
        for shown in ("", "00"):
            bent = {**EVEN, "f": {"a": ("e", "1"), "b": ("e", shown)}}
            self.assertEqual(caught(Uneven, Codes, "ab", {"e": EVEN, "f": bent}, {}).name, "f")
        self.assertIsNone(caught(Uneven, Codes, "ab", {"c": CODE}, {}))
        self.assertIsNone(caught(Uneven, Codes, "ab", {"e": EVEN, "f": EVEN}, {}))

    def test_equality(self):
        self.assertTrue(FIELD == Codes("ab", {"c": {"s": {"b": ("s", ""), "a": ("t", "01")}, "t": CODE["t"]}}, {"k": CLASS}))
        self.assertFalse(FIELD != Codes("ab", {"c": CODE}, {"k": CLASS}))
        self.assertFalse(FIELD == Codes("ba", {"c": CODE}, {"k": CLASS}))
        self.assertFalse(FIELD == Codes("ab", {"c": dict(list(CODE.items())[::-1])}, {"k": CLASS}))
        self.assertFalse(FIELD == Codes("ab", {"c": CODE}, {"k": dict(list(CLASS.items())[::-1])}))
        self.assertFalse(FIELD == Codes("ab", {"d": CODE}, {"k": CLASS}))
        self.assertFalse(FIELD == Codes("ab", {"c": CODE}, {}))
        self.assertFalse(FIELD == Codes("ab", {"c": CODE}, {"k": {**CLASS, "p": (0, CLASS["p"][1])}}))
        self.assertFalse(FIELD == Codes("ab", {"c": {**CODE, "t": {"b": ("s", "1"), "a": ("t", "1")}}}, {"k": CLASS}))
        two = Codes("ab", {"e": EVEN, "f": EVEN}, {"k": CLASS, "l": CLASS})
        self.assertTrue(two == Codes("ab", {"e": EVEN, "f": EVEN}, {"k": CLASS, "l": CLASS}))
        self.assertFalse(two == Codes("ab", {"f": EVEN, "e": EVEN}, {"k": CLASS, "l": CLASS}))
        self.assertFalse(two == Codes("ab", {"e": EVEN, "f": EVEN}, {"l": CLASS, "k": CLASS}))
        mute, flat = {"o": {"a": ("o", ""), "b": ("o", "")}}, {"o": (0, {"a": "o", "b": "o"})}
        self.assertFalse(Codes("ab", {"x": mute}, {}) == Codes("ab", {}, {"x": flat}))
        for thing in any_objects():
            self.assertFalse(FIELD == thing)

    def test_answers(self):
        self.assertEqual(list(FIELD.answers(world="aaba").items()), [("c", "010101"), ("k", -1)])
        self.assertEqual(FIELD.answers(""), {"c": "", "k": 3})
        for thing in any_objects():
            if thing not in ("", "a", "b") or not isinstance(thing, str):
                self.assertIs(caught(BadWorld, FIELD.answers, thing).thing, thing)
        for bad in ("abc", "aA", "a b", "ab\n"):
            self.assertIs(caught(BadWorld, FIELD.answers, bad).thing, bad)
        rng = random.Random(85)
        for _ in range(100):
            field = drawn_codes(rng)
            word = "".join(rng.choice(field.letters()) for _ in range(rng.randint(0, 9)))
            self.assertEqual(field.answers(word), plain_answers(field, word))


class TestTold(unittest.TestCase):
    def test_drawn(self):
        rng = random.Random(87)
        told = 0
        for _ in range(500):
            field = drawn_codes(rng, most_states=rng.randint(1, 3))
            known, asked = drawn_names(rng, field.questions()), rng.choice(field.questions())
            rows = [plain_answers(field, word) for word in all_words(field.letters(), 6)]
            seen = {}
            right = all(seen.setdefault(tuple(row[name] for name in known), row[asked]) == row[asked] for row in rows)
            plan, pair = field.plan(known, asked), field.apart(known, asked)
            self.assertEqual((field.is_told(known, asked), plan is None), (pair is None, pair is not None))
            if pair is None:
                self.assertTrue(right)
                told += 1
                self.look_at_plan(rng, field, known, asked, plan)
            else:
                self.assertIs(type(pair), tuple)
                one, other = plain_answers(field, pair[0]), plain_answers(field, pair[1])
                self.assertTrue(all(one[name] == other[name] for name in known) and one[asked] != other[asked])
                self.assertIs(field.are_apart(known, asked, pair), True)
            for _ in range(5):
                words = [rng.choice(all_words(field.letters(), 4)) for _ in range(2)]
                one, other = [plain_answers(field, word) for word in words]
                self.assertIs(field.are_apart(known, asked, words), all(
                    one[name] == other[name] for name in known) and one[asked] != other[asked])
        self.assertTrue(150 < told < 400, told)

    def look_at_plan(self, rng, field, known, asked, plan):
        plain = Rows(field, known, asked)
        self.assertEqual(sorted(plan), sorted(plain.all_rows()))
        self.assertTrue(all(type(row) is tuple and all(type(part) is tuple for part in row) for row in plan))
        self.assertIs(type(plan), list)
        for thing in (plan, plan[::-1], plan + plan, tuple([list(map(list, row)) for row in plan])):
            self.assertIs(field.is_plan(known, asked, thing), True)
        for place in rng.sample(range(len(plan)), min(4, len(plan))):
            without = plan[:place] + plan[place + 1:]
            self.assertIs(field.is_plan(known, asked, without), plain.is_plan(without))
            one, other, shown, told = plan[place]
            for bent in ((other, one, shown, told), (one, other, shown, told[::-1]), (one, other, shown[::-1], told),
                         (one, other, ("000111", ""), told), (one, other, shown, ("0", "")), (one, one, shown, told),
                         (one, other, shown, ("", "a1")), (one, other, shown, ("0", "1"))):
                is_row = plain.marks[-1] is None or bent[3] == ("", "")
                for thing in (without + [bent], plan + [bent]):
                    self.assertIs(field.is_plan(known, asked, thing), is_row and plain.is_plan(thing))
        for word in all_words(field.letters(), 4):
            answers = plain_answers(field, word)
            given = {name: answers[name] for name in known}
            self.assertEqual(field.found(known, asked, plan, given), answers[asked])

    def test_kinds_of_rows(self):
        good = FIELD.plan(["c"], "c")
        row = (("s", "s"), ("s", "s"), ("", "0000"), ("0", "1"))
        self.assertIs(FIELD.is_plan(["c"], "c", good + [row]), Rows(FIELD, ["c"], "c").is_plan(good + [row]))
        never = (("s", "s"), ("s", "s"), ("z", ""), ("0", "1"))
        self.assertIs(FIELD.is_plan(["c"], "c", good + [never]), True)
        for bent in ((*never, ()), never[:3], (("s",), *never[1:]), (("s", "z"), *never[1:]), (("s", "s", "s"), *never[1:]),
                     (("s", None), *never[1:]), ("ss", *never[1:]), (*never[:2], ("z", "z"), never[3]),
                     (*never[:2], ("A", ""), never[3]), (*never[:2], ("",), never[3]), (*never[:2], "z", never[3]),
                     (*never[:2], ("z", None), never[3]), (*never[:3], ("0", "0")), (*never[:3], ("01", "02")),
                     (*never[:3], ("A", "")), (*never[:3], ("", "", "")), (*never[:3], ("", 0)), (*never[:3], None),
                     (*never[:2], ("z", "", ""), never[3]), (never[0], None, *never[2:]), (never[0], ["s", []], *never[2:]),
                     None, 1, "row", {}, []):
            self.assertIs(FIELD.is_plan(["c"], "c", good + [bent]), False)
        mute = Codes("a", {}, {"k": {"o": (1, {"a": "o"})}})
        told = mute.plan([], "k")
        self.assertEqual(told, [(("o",), ("o",), ("", ""), ("", ""))])
        self.assertIs(mute.is_plan([], "k", told + [(("o",), ("o",), ("z", ""), ("", ""))]), True)
        self.assertIs(mute.is_plan([], "k", told + [(("o",), ("o",), ("z", ""), ("1", ""))]), False)

    def test_any_objects(self):
        flat = Codes("a", {}, {"k": {"o": (1, {"a": "o"})}})
        for thing in any_objects():
            self.assertIs(flat.is_plan([], "k", thing), False)
            self.assertIs(flat.is_plan([], "k", [(("o",), ("o",), ("", ""), ("", "")), thing]), False)
            self.assertIs(caught(BadPlan, flat.found, [], "k", thing, 3).thing, thing)
            self.assertIs(FIELD.are_apart([], "k", thing), thing in (("a", "b"),) and isinstance(thing, tuple))
            self.assertIs(FIELD.are_apart([], "k", ("", thing)), thing == "a")
        self.assertIs(FIELD.are_apart(thing=["", "a"], asked="k", known=()), True)
        for thing in (("", "a", "a"), ("",), ("", "c"), "ab", {"": "a"}):
            self.assertIs(FIELD.are_apart([], "k", thing), False)

    def test_found(self):
        field = Codes("ab", {"e": EVEN, "f": EVEN}, {"k": CLASS})
        known = ["f", "e"]
        plan = field.plan(known, "e")
        self.assertEqual(field.found(answers={"e": "01", "f": "01", "k": None}, plan=plan, asked="e", known=known), "01")
        for bad in ({"e": "01"}, {}, None, [], {"e": "01", "f": "00"}, {"e": "01", "f": "0"}, {"e": "", "f": "0"},
                    {"e": 1, "f": "01"}, {"e": "01", "f": None}, {"e": ["0", "1"], "f": "01"}, {"e": "2", "f": "2"},
                    {"e": "A", "f": "A"}):
            self.assertIs(caught(BadAnswers, field.found, known, "e", plan, bad).thing, bad)
        plan = field.plan(["k"], "k")
        self.assertEqual(field.found(["k"], "k", plan, {"k": -1}), -1)
        for bad in ({"k": 5}, {"k": True}, {"k": "3"}, {"k": None}, {"k": [3]}, {}):
            self.assertIs(caught(BadAnswers, field.found, ["k"], "k", plan, bad).thing, bad)

    def test_order_of_errors(self):
        for work, rest in [(FIELD.is_told, ()), (FIELD.plan, ()), (FIELD.is_plan, (3,)), (FIELD.found, (3, 3)),
                           (FIELD.apart, ()), (FIELD.are_apart, (3,))]:
            for thing in any_objects():
                if not isinstance(thing, (list, tuple)):
                    self.assertEqual(caught(BadKnown, work, thing, "zz", *rest).index, 0)
                self.assertEqual(caught(BadKnown, work, ["k", "c", thing], "zz", *rest).index, 2)
                self.assertIs(caught(NoQuestion, work, ["c"], thing, *rest).name, thing)
            self.assertEqual(caught(BadKnown, work, ["c", "k", "c"], "zz", *rest).index, 2)


class TestWords(unittest.TestCase):
    def test_drawn(self):
        rng = random.Random(88)
        numbers = {}
        for _ in range(400):
            field = drawn_codes(rng)
            known = drawn_names(rng, field.questions())
            words = sorted(all_words(field.letters(), 7), key=lambda word: (len(word), word))
            rows = {word: plain_answers(field, word) for word in words}
            answers = dict(plain_answers(field, rng.choice(words[:40])))
            if rng.random() < 0.4:
                answers.update({name: rng.choice((answers[name] * 2, 2, "0")) if isinstance(answers[name], str)
                                else rng.choice((answers[name] + 1, -5)) for name in rng.sample(list(answers), 1)})
                answers = {name: answers[name] if type(answers[name]) is type(rows[""][name]) else rows[""][name]
                           for name in answers}
            right = [word for word in words if all(rows[word][name] == answers[name] for name in known)]
            for most in (0, 3, 7):
                self.assertEqual(field.words(known, answers, most), [word for word in right if len(word) <= most])
            short, many = field.shortest(known, answers), field.how_many(known, answers)
            self.assertEqual(short if right else None, right[0] if right else None)
            if short is not None and not right:
                self.assertTrue(len(short) > 7)
                self.assertTrue(all(plain_answers(field, short)[name] == answers[name] for name in known))
            self.assertEqual(many, self.plainly_many(field, known, answers))
            self.assertEqual(many == 0, short is None)
            kind = "none" if many is None else min(many, 2)
            numbers[kind] = numbers.get(kind, 0) + 1
        self.assertTrue(all(numbers[kind] > 20 for kind in ("none", 0, 1, 2)), numbers)

    def plainly_many(self, field, known, answers):
        """How many words have the answers, None for infinitely many: counted length by length, by states."""
        machines = []
        for name in known:
            if isinstance(answers[name], str):
                code = field.code(name)
                machines.append((name, code, None))
            else:
                marked = field.class_of(name)
                machines.append((name, {state: {letter: (after, "") for letter, after in steps.items()}
                                        for state, (_, steps) in marked.items()}, marked))
        level, seen, counts = {tuple((list(moves)[0], "") for _, moves, _ in machines): 1}, set(), []
        while level and len(counts) <= 2 * len(seen) + 2:
            seen |= set(level)
            counts.append(sum(many for node, many in level.items() if all(
                shown == answers[name] if marked is None else marked[state][0] == answers[name]
                for (name, _, marked), (state, shown) in zip(machines, node))))
            following = {}
            for node, many in level.items():
                for letter in field.letters():
                    after = tuple((moves[state][letter][0], shown + moves[state][letter][1])
                                  for (_, moves, _), (state, shown) in zip(machines, node))
                    if all(marked is not None or answers[name].startswith(shown)
                           for (name, _, marked), (_, shown) in zip(machines, after)):
                        following[after] = following.get(after, 0) + many
            level = following
        return None if any(counts[len(seen):]) else sum(counts)

    def test_examples(self):
        self.assertEqual(FIELD.words([], {}, 2), ["", "a", "b", "aa", "ab", "ba", "bb"])
        self.assertEqual(Codes("ba", {"c": CODE}, {}).words([], {}, 1), ["", "a", "b"])
        self.assertEqual(FIELD.words(most=3, answers={"c": "0"}, known=["c"]), [])
        self.assertIsNone(FIELD.how_many(known=[], answers={}))
        self.assertEqual(FIELD.shortest(answers={"c": "01", "k": -1}, known=["c", "k"]), "a")
        begin = Codes("ab", {}, {"k": {"o": (1, {"a": "p", "b": "p"}), "p": (2, {"a": "p", "b": "p"})}})
        self.assertEqual((begin.how_many(["k"], {"k": 1}), begin.how_many(["k"], {"k": 2}), begin.how_many(
            ["k"], {"k": 3})), (1, None, 0))
        long = Codes("ab", {"c": {"o": {"a": ("o", "0"), "b": ("o", "00")}}}, {})
        self.assertEqual(long.how_many(["c"], {"c": "0" * 60}), 2504730781961)
        self.assertEqual(long.words(["c"], {"c": "0000"}, 3), ["bb", "aab", "aba", "baa"])

    def test_errors(self):
        for work, rest in ((FIELD.words, (None,)), (FIELD.shortest, ()), (FIELD.how_many, ())):
            for thing in any_objects():
                if not isinstance(thing, (list, tuple)):
                    self.assertEqual(caught(BadKnown, work, thing, 3, *rest).index, 0)
                self.assertEqual(caught(BadKnown, work, ["c", thing], 3, *rest).index, 1)
                self.assertIs(caught(BadAnswers, work, ["k"], thing, *rest).thing, thing)
                if not isinstance(thing, dict):
                    self.assertIs(caught(BadAnswers, work, [], thing, *rest).thing, thing)
                if not isinstance(thing, str):
                    answers = {"c": thing, "k": 3}
                    self.assertIs(caught(BadAnswers, work, ["c", "k"], answers, *rest).thing, answers)
                if type(thing) is not int:
                    answers = {"c": "", "k": thing}
                    self.assertIs(caught(BadAnswers, work, ["c", "k"], answers, *rest).thing, answers)
            self.assertEqual(caught(BadKnown, work, ["k", "c", "k"], 3, *rest).index, 2)
        for thing in any_objects():
            if type(thing) is not int or thing < 0:
                self.assertIs(caught(BadNumber, FIELD.words, ["k"], {"k": 3, "c": 5}, thing).thing, thing)


class TestFacts(unittest.TestCase):
    def test_codes_that_can_be_read(self):
        rng = random.Random(91)
        for _ in range(60):
            letters = "abc"[:rng.randint(1, 3)]
            states = ["s", "t", "r"][:rng.randint(1, 3)]
            heads = {1: ["0", "1", "2"], 2: ["00", "01", "1"], 3: ["0", "10", "11"]}
            code = {state: {letter: (rng.choice(states), shown) for letter, shown in zip(
                letters, rng.sample(heads[rng.randint(1, 3)], len(letters)))} for state in states}
            field = Codes(letters, {"c": code}, {"k": drawn_class(rng, letters), "l": drawn_class(rng, letters)})
            self.assertEqual([name for name in field.questions() if field.is_told(["c"], name)], ["c", "k", "l"])

    def test_codes_that_show_nothing_and_flat_classes(self):
        rng = random.Random(911)
        for _ in range(100):
            letters = "ab"[:rng.randint(1, 2)]
            mute = drawn_code(rng, letters, most=0)
            flat = {state: (7, steps) for state, (_, steps) in drawn_class(rng, letters).items()}
            field = Codes(letters, {"c": mute}, {"k": drawn_class(rng, letters), "f": flat})
            for name in field.questions():
                self.assertIs(field.is_told(["c"], name), field.is_told([], name))
            self.assertTrue(field.is_told([], "c") and field.is_told([], "f"))

    def test_classes_with_unlike_marks(self):
        rng = random.Random(912)
        told = 0
        for _ in range(150):
            letters = "ab"[:rng.randint(1, 2)]
            one = drawn_class(rng, letters, 4)
            whole = {state: (at, steps) for at, (state, (_, steps)) in enumerate(one.items())}
            field = Codes(letters, {"c": drawn_code(rng, letters)}, {"k": one, "w": whole, "o": drawn_class(rng, letters)})
            for name in field.questions():
                if field.is_told(["k"], name):
                    told += 1
                    self.assertTrue(field.is_told(["w"], name))
        self.assertGreater(told, 150)


if __name__ == "__main__":
    unittest.main()
