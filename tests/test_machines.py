"""Promises [93] to [97], and [99] to [102]."""

import random
import unittest
from itertools import combinations, product

from tests.helpers import all_words, any_objects, caught, drawn_machines, drawn_names, drawn_reader
from twoworlds.errors import (BadAnswers, BadIndex, BadKnown, BadLetters, BadMachine, BadPlan, BadWorld, NoQuestion,
                              TakenName, UnlikeLetters)
from twoworlds.machines import Machines

ODD = ("e", {"e": (0, {"a": "o", "b": "e"}), "o": (1, {"a": "e", "b": "o"})})
LAST = ("n", {"n": (0, {"a": "y", "b": "n"}), "y": (1, {"a": "y", "b": "n"})})
EVER = ("n", {"n": (0, {"a": "y", "b": "n"}), "y": (1, {"a": "y", "b": "y"})})
FIELD = Machines("ab", {"odd": ODD, "last": LAST, "ever": EVER})


def plainly_told(reader, word):
    state, states = reader
    out = str(states[state][0])
    for letter in word:
        state = states[state][1][letter]
        out += str(states[state][0])
    return out


def plain_answers(field, word):
    return {name: plainly_told(field.reader(name), word) for name in field.questions()}


def plainly_read(plan, known, answers):
    """What a plan tells, None where it has no row."""
    name, rows = plan
    out = []
    for digits in zip(*[answers[one] for one in known]):
        if "".join(digits) not in rows[name]:
            return None
        digit, name = rows[name]["".join(digits)]
        out.append(digit)
    return out


class TestMaking(unittest.TestCase):
    def test_making(self):
        readers = {"odd": ["e", {"e": [0, {"b": "e", "a": "o"}], "o": (1, {"a": "e", "b": "o"})}], "ever": EVER}
        field = Machines(readers=readers, letters="ba")
        readers["odd"][1]["e"][1]["a"] = "zz"
        readers["odd"][1]["e"][0] = 7
        readers["last"] = LAST
        field.questions().clear()
        told = field.reader(name="odd")
        self.assertEqual(told, ("e", {"e": (0, {"a": "o", "b": "e"}), "o": (1, {"a": "e", "b": "o"})}))
        self.assertEqual([(state, digit, list(moves)) for state, (digit, moves) in told[1].items()],
                         [("e", 0, ["b", "a"]), ("o", 1, ["a", "b"])])
        self.assertEqual((type(told), type(told[1]["e"])), (tuple, tuple))
        told[1]["e"][1].clear()
        told[1].clear()
        self.assertEqual(len(field.reader("odd")[1]["e"][1]), 2)
        self.assertEqual((field.letters(), field.questions(), field.home()), ("ba", ["odd", "ever"], ""))
        for thing in any_objects():
            self.assertIs(caught(NoQuestion, FIELD.reader, thing).name, thing)
            self.assertIs(caught(NoQuestion, FIELD.least_reader, thing).name, thing)

    def test_bad_letters(self):
        for thing in [*any_objects(), "aa", "abcd", "aba", "a1", "a ", "a\n", "B"]:
            if thing not in ("a", "b", "abc") or not isinstance(thing, str):
                self.assertIs(caught(BadLetters, Machines, thing, 3).thing, thing)

    def test_bad_machines(self):
        flat = ("s", {"s": (0, {"a": "s"})})
        for thing in any_objects():
            if not isinstance(thing, dict) or not thing:
                self.assertIsNone(caught(BadMachine, Machines, "a", thing).name)
            for bad in (thing, (thing, flat[1]), ("s", thing), ("s", {"s": thing}), ("s", {"s": (0, thing)}),
                        ("s", {"s": (0, {"a": thing})})):
                self.assertEqual(caught(BadMachine, Machines, "a", {"m": flat, "n": bad, "o": 3}).name, "n")
            if type(thing) is not int or not 0 <= thing <= 9:
                bad = ("s", {"s": (thing, {"a": "s"})})
                self.assertEqual(caught(BadMachine, Machines, "a", {"m": flat, "n": bad, "o": 3}).name, "n")
        seven = {f"s{place}": (0, {"a": "s0"}) for place in range(7)}
        for bad in (("t", flat[1]), ("s", {"s": (10, {"a": "s"})}), ("s", {"s": (0, {"a": "s", "b": "s"})}),
                    ("s", {"s": (0, {"b": "s"})}), ("s", {"s": (0, {"a": "t"})}), ("s", {}), ("s0", seven), flat[1],
                    (*flat, 0), ("s", {"s": (0, {"a": "s"}, 0)}), ("s", {"s": (0,)}), ("S", {"S": (0, {"a": "S"})}),
                    ("s", {"s": (0, {"a": "s"}), 1: (0, {"a": "s"})}), ("s", {"s": (0, {"a": "s"}), "S": (0, {"a": "s"})}),
                    ("s", {"s": (0, {"a": "s"}), None: (0, {"a": "s"})})):
            self.assertEqual(caught(BadMachine, Machines, "a", {"m": flat, "n": bad, "o": 3}).name, "n", bad)
        for name in (1, None, True, "", "A", "a" * 41, ("a",), "a b"):
            self.assertEqual(caught(BadMachine, Machines, "a", {"m": flat, name: flat, "o": 3}).name, name)
        del seven["s6"]
        self.assertEqual(Machines("a", {"m": ("s3", seven)}).answers("a"), {"m": "00"})

    def test_answers(self):
        self.assertEqual(list(FIELD.answers(world="bab").items()), [("odd", "0011"), ("last", "0010"), ("ever", "0011")])
        self.assertEqual(FIELD.answers(""), {"odd": "0", "last": "0", "ever": "0"})
        for thing in [*any_objects(), "abc", "aA", "a b", "ab\n"]:
            if thing not in ("", "a", "b") or not isinstance(thing, str):
                self.assertIs(caught(BadWorld, FIELD.answers, thing).thing, thing)
        rng = random.Random(94)
        for _ in range(60):
            field = drawn_machines(rng)
            word = "".join(rng.choice(field.letters()) for _ in range(rng.randint(0, 60)))
            self.assertEqual(field.answers(word), plain_answers(field, word))

    def test_equality(self):
        turned = ("e", {"o": (1, {"b": "o", "a": "e"}), "e": (0, {"b": "e", "a": "o"})})
        self.assertTrue(FIELD == Machines("ab", {"odd": turned, "last": LAST, "ever": list(EVER)}))
        self.assertFalse(FIELD != Machines("ab", {"odd": turned, "last": LAST, "ever": EVER}))
        self.assertFalse(FIELD == Machines("ba", {"odd": ODD, "last": LAST, "ever": EVER}))
        self.assertFalse(FIELD == Machines("ab", {"last": LAST, "odd": ODD, "ever": EVER}))
        self.assertFalse(FIELD == Machines("ab", {"odd": ODD, "last": LAST}))
        self.assertFalse(FIELD == Machines("ab", {"odd": ODD, "last": LAST, "evar": EVER}))
        self.assertFalse(FIELD == Machines("ab", {"odd": ("o", ODD[1]), "last": LAST, "ever": EVER}))
        self.assertFalse(FIELD == Machines("ab", {"odd": ODD, "last": EVER, "ever": EVER}))
        for thing in any_objects():
            self.assertFalse(FIELD == thing)


class TestTold(unittest.TestCase):
    def test_the_written_example(self):
        field = Machines("ab", {"odd": ODD, "last": LAST})
        self.assertTrue(field.is_told(["last"], "odd"))
        self.assertTrue(field.is_told(["odd"], "last"))
        self.assertFalse(field.is_told([], "odd"))
        self.assertIsNone(field.plan([], "odd"))
        self.assertIs(field.is_plan([], "odd", ("s0", {"s0": {"": (0, "s0")}})), False)
        self.assertEqual(field.least_apart([], "odd"), ("", "a"))
        self.assertEqual(Machines("ba", {"odd": ODD}).least_apart([], "odd"), ("", "b"))
        self.assertTrue(FIELD.is_told(["odd"], "ever"))
        self.assertFalse(FIELD.is_told(["ever"], "odd"))
        self.assertEqual(FIELD.least_apart(known=["ever"], asked="odd"), ("aa", "ab"))

    def test_drawn(self):
        rng = random.Random(95)
        told = 0
        for _ in range(400):
            field = drawn_machines(rng)
            known, asked = drawn_names(rng, field.questions()), rng.choice(field.questions())
            words = all_words(field.letters(), 6)
            rows = [plain_answers(field, word) for word in words]
            seen = {}
            right = all(seen.setdefault(tuple(row[name] for name in known), row[asked]) == row[asked] for row in rows)
            plan, pair = field.plan(known, asked), field.apart(known, asked)
            self.assertEqual((field.is_told(known, asked), plan is None, field.least_apart(known, asked) is None),
                             (pair is None, pair is not None, pair is None))
            if pair is None:
                self.assertTrue(right)
                told += 1
                self.assertIs(field.is_plan(known, asked, plan), True)
                for row in rows:
                    self.assertEqual(field.found(known, asked, plan, {name: row[name] for name in known}), row[asked])
                self.look_at_bent(rng, field, known, asked, plan, rows)
            else:
                self.assertIs(type(pair), tuple)
                one, other = plain_answers(field, pair[0]), plain_answers(field, pair[1])
                self.assertTrue(all(one[name] == other[name] for name in known) and one[asked] != other[asked])
                self.assertIs(field.are_apart(known, asked, pair), True)
                if known:
                    self.assertEqual(len(pair[0]), len(pair[1]))
                self.look_at_least(field, known, asked, words, rows)
        self.assertTrue(100 < told < 320, told)

    def look_at_least(self, field, known, asked, words, rows):
        """The least pair, by going through all pairs in their order."""
        found = None
        for place, second in enumerate(rows):
            firsts = [at for at in range(place) if rows[at][asked] != second[asked]
                      and all(rows[at][name] == second[name] for name in known)]
            if firsts:
                found = (words[firsts[0]], words[place])
                break
        least = field.least_apart(known, asked)
        self.assertEqual(least if len(least[1]) <= 6 else None, found)

    def look_at_bent(self, rng, field, known, asked, plan, rows):
        begin, table = plan
        names = list(table)

        def is_plan(thing):
            self.assertIs(type(field.is_plan(known, asked, thing)), bool)
            return field.is_plan(known, asked, thing)
        self.assertTrue(is_plan([begin, {name: {key: list(step) for key, step in row.items()}
                                         for name, row in table.items()}]))
        never = {"zz": {"9" * len(known): (9, "zz")}, "yy": {}}
        self.assertTrue(is_plan((begin, {**table, **never})))
        name = rng.choice(names)
        for key, (digit, after) in table[name].items():
            for row in ({one: table[name][one] for one in table[name] if one != key},
                        {**table[name], key: ((digit + 1) % 10, after)}):
                # What our own plan has comes up for some word.
                self.assertFalse(is_plan((begin, {**table, name: row})))
            for bad in ((None, after), (True, after), (10, after), (-1, after), (str(digit), after), (digit, "xx"),
                        (digit,), (digit, after, after), (digit, None), None, digit, {digit: after}):
                self.assertFalse(is_plan((begin, {**table, name: {**table[name], key: bad}})))
                self.assertFalse(is_plan((begin, {**table, "zz": {"9" * len(known): bad}})))
            other = rng.choice(names)
            bent = (begin, {**table, name: {**table[name], key: (digit, other)}})
            if is_plan(bent):
                self.assertTrue(all("".join(map(str, plainly_read(bent, known, row) or "x")) == row[asked] for row in rows))
        for bad in ("9" * (len(known) + 1), "x" * len(known), "", 0, None, ("9",)):
            self.assertFalse(is_plan((begin, {**table, "zz": {bad: (0, "zz")}})))
        for bad in (("xx", table), (begin, {}), (begin,), (begin, table, 0), (None, table), (begin, {**table, "Z": {}}),
                    (begin, {**table, 1: {}}), (begin, {**table, "zz": None}), (begin, {**table, "zz": []}), table):
            self.assertFalse(is_plan(bad))

    def test_a_plan_read_another_way(self):
        # The same plan with another name for each place where it comes along twice.
        plan = FIELD.plan(["odd"], "last")
        two = ("x", {"x": {"0": (0, "y")}, "y": {"0": (0, "y2"), "1": (1, "z")}, "y2": {"0": (0, "y"), "1": (1, "z")},
                     "z": {"0": (1, "y"), "1": (0, "z2")}, "z2": {"1": (0, "z"), "0": (1, "y2")}})
        for thing in (plan, two):
            self.assertIs(FIELD.is_plan(["odd"], "last", thing), True)
            self.assertEqual(FIELD.found(["odd"], "last", thing, {"odd": "00110", "last": 3}), "00101")
        del two[1]["z2"]["0"]
        self.assertIs(FIELD.is_plan(["odd"], "last", two), False)

    def test_any_objects(self):
        for thing in any_objects():
            self.assertIs(FIELD.is_plan(["odd"], "last", thing), False)
            self.assertIs(caught(BadPlan, FIELD.found, ["odd"], "last", thing, 3).thing, thing)
            self.assertIs(caught(BadPlan, FIELD.found, [], "last", thing, 3).thing, thing)
            self.assertIs(FIELD.are_apart(["odd"], "last", thing), False)
            self.assertIs(FIELD.are_apart([], "odd", ("", thing)), thing in ("a", "b") and isinstance(thing, str))
        for thing in (("aa", "ab", "a"), ("aa",), ("aa", "ac"), ("aa", "aa"), ("ab", "bb"), "ab", {"aa": "ab"}, ("aa", "a")):
            self.assertIs(FIELD.are_apart(["ever"], "odd", thing), False)
        self.assertIs(FIELD.are_apart(thing=["ab", "aa"], asked="odd", known=("ever",)), True)

    def test_found(self):
        plan = FIELD.plan(["odd", "ever"], "last")
        self.assertEqual(FIELD.found(answers={"ever": "011", "odd": "010"}, plan=plan, asked="last", known=["odd", "ever"]),
                         "011")
        for bad in ({"odd": "010"}, {}, None, [], {"odd": "010", "ever": "01"}, {"odd": "", "ever": ""},
                    {"odd": "0x0", "ever": "011"}, {"odd": 10, "ever": "011"}, {"odd": "010", "ever": None},
                    {"odd": ["0"], "ever": ["0"]}, {"odd": "2", "ever": "0"}, {"odd": "1", "ever": "0"},
                    {"odd": "01 ", "ever": "011"}, {"odd": "010", "ever": "000"}):
            self.assertIs(caught(BadAnswers, FIELD.found, ["odd", "ever"], "last", plan, bad).thing, bad)

    def test_order_of_errors(self):
        for work, rest in [(FIELD.is_told, ()), (FIELD.plan, ()), (FIELD.is_plan, (3,)), (FIELD.found, (3, 3)),
                           (FIELD.apart, ()), (FIELD.are_apart, (3,)), (FIELD.least_apart, ())]:
            for thing in any_objects():
                if not isinstance(thing, (list, tuple)):
                    self.assertEqual(caught(BadKnown, work, thing, "zz", *rest).index, 0)
                self.assertEqual(caught(BadKnown, work, ["odd", thing], "zz", *rest).index, 1)
                self.assertIs(caught(NoQuestion, work, ["odd"], thing, *rest).name, thing)
                self.assertIs(caught(NoQuestion, work, [], thing, *rest).name, thing)
            self.assertEqual(caught(BadKnown, work, ["odd", "last", "odd"], "zz", *rest).index, 2)


class TestWords(unittest.TestCase):
    def test_drawn(self):
        rng = random.Random(97)
        none = 0
        for _ in range(300):
            field = drawn_machines(rng, 3)
            known = drawn_names(rng, field.questions()) or field.questions()[:1]
            asked = rng.choice(field.questions())
            length = rng.randint(0, 5)
            words = ["".join(row) for row in product(field.letters(), repeat=length)]
            rows = {word: plain_answers(field, word) for word in words}
            answers = {**rows[rng.choice(words)], "more": None}
            if rng.random() < 0.3:
                name = rng.choice(known)
                answers[name] = rng.choice(("0" * (length + 1), "", "1" * (length + 1), "7", answers[name] + "0"))
            right = [word for word in words if all(rows[word][name] == answers[name] for name in known)]
            if len({len(answers[name]) for name in known}) == 1 and len(answers[known[0]]) != length + 1:
                right = [word for word in all_words(field.letters(), length + 1)
                         if all(plain_answers(field, word)[name] == answers[name] for name in known)]
                rows = {word: plain_answers(field, word) for word in right}
            none += not right
            self.assertEqual(field.many_words(known, answers), len(right))
            self.assertEqual([field.nth_word(known, answers, index) for index in range(len(right))], right)
            self.assertEqual(field.may_say(known, answers, asked), sorted({rows[word][asked] for word in right}))
            for bad in (len(right), -1, True, None, "0", len(right) + 10 ** 14):
                self.assertIs(caught(BadIndex, field.nth_word, known, answers, bad).index, bad)
        self.assertGreater(none, 20)

    def test_large(self):
        flat = Machines("cab", {"m": ("s", {"s": (7, {"a": "s", "b": "s", "c": "s"})})})
        self.assertEqual(flat.many_words(["m"], {"m": "7" * 60}), 3 ** 59)
        self.assertEqual(flat.nth_word(known=["m"], answers={"m": "7" * 60}, index=0), "c" * 59)
        self.assertEqual(flat.nth_word(["m"], {"m": "7" * 60}, 3 ** 59 - 1), "b" * 59)
        self.assertEqual(flat.nth_word(["m"], {"m": "7777"}, 1 + 3 * 2), "cba")
        self.assertEqual(FIELD.may_say(asked="odd", known=["ever"], answers={"ever": "0111"}), ["0100", "0101", "0110", "0111"])

    def test_errors(self):
        works = ((FIELD.many_words, lambda known, answers: (known, answers)),
                 (FIELD.nth_word, lambda known, answers: (known, answers, None)),
                 (FIELD.may_say, lambda known, answers: (known, answers, "odd")))
        for work, rest in works:
            self.assertEqual(caught(BadKnown, work, *rest([], 3)).index, 0)
            for thing in any_objects():
                if not isinstance(thing, (list, tuple)):
                    self.assertEqual(caught(BadKnown, work, *rest(thing, 3)).index, 0)
                self.assertEqual(caught(BadKnown, work, *rest(["odd", thing], 3)).index, 1)
                self.assertIs(caught(BadAnswers, work, *rest(["odd"], thing)).thing, thing)
                if not (isinstance(thing, str) and thing == ""):
                    answers = {"odd": "0", "last": thing}
                    self.assertIs(caught(BadAnswers, work, *rest(["odd", "last"], answers)).thing, answers)
            for bad in ("0a", " 0", "-1", "0\n", "1.0"):
                answers = {"odd": bad}
                self.assertIs(caught(BadAnswers, work, *rest(["odd"], answers)).thing, answers)
        self.assertEqual(FIELD.many_words(["odd"], {"odd": ""}), 0)
        self.assertEqual(FIELD.many_words(["odd", "last"], {"odd": "00", "last": "0"}), 0)
        self.assertEqual(FIELD.may_say(["odd"], {"odd": ""}, "odd"), [])
        self.assertEqual(FIELD.may_say(["odd", "last"], {"odd": "00", "last": "0"}, "odd"), [])
        self.assertEqual(caught(BadIndex, FIELD.nth_word, ["odd"], {"odd": ""}, 0).index, 0)
        for thing in any_objects():
            self.assertIs(caught(NoQuestion, FIELD.may_say, ["odd"], 3, thing).name, thing)
            if type(thing) is not int or thing != 0:
                self.assertIs(caught(BadIndex, FIELD.nth_word, ["odd"], {"odd": "00"}, thing).index, thing)


class TestReaders(unittest.TestCase):
    def test_unlike_words(self):
        rng = random.Random(99)
        same = 0
        for _ in range(300):
            field = drawn_machines(rng, 3, 3, 3)
            one, other = rng.choice(field.questions()), rng.choice(field.questions())
            words = [word for word in all_words(field.letters(), 5)
                     if plain_answers(field, word)[one] != plain_answers(field, word)[other]]
            found = field.unlike_word(one, other)
            self.assertEqual(found, words[0] if words else None)
            least = [field.least_reader(name) for name in (one, other)]
            self.assertEqual(least[0] == least[1], found is None)
            if found is not None:
                self.assertLess(len(found), sum(len(field.reader(name)[1]) for name in (one, other)))
            same += found is None and one != other
        self.assertGreater(same, 10)
        self.assertEqual(FIELD.unlike_word(other="last", one="odd"), "aa")
        self.assertEqual(FIELD.unlike_word("odd", "ever"), "aa")
        self.assertIsNone(FIELD.unlike_word("odd", "odd"))
        for thing in any_objects():
            self.assertIs(caught(NoQuestion, FIELD.unlike_word, thing, "zz").name, thing)
            self.assertIs(caught(NoQuestion, FIELD.unlike_word, "odd", thing).name, thing)

    def test_least_readers(self):
        rng = random.Random(991)
        sizes = {}
        for _ in range(300):
            field = drawn_machines(rng, 3, 1, 4)
            letters, reader = field.letters(), field.reader("m0")
            found = field.least_reader("m0")
            for word in all_words(letters, 4):
                self.assertEqual(plainly_told(found, word), plainly_told(reader, word))
            words = all_words(letters, 3)
            right = {tuple(plainly_told((state, reader[1]), word) for word in words)
                     for state in self.reached(letters, reader)}
            self.assertEqual(len(found[1]), len(right))
            met = ["s0"]
            for state in met:
                for letter in letters:
                    if found[1][state][1][letter] not in met:
                        met.append(found[1][state][1][letter])
            self.assertEqual((found[0], met, list(found[1])), ("s0", [f"s{at}" for at in range(len(met))], met))
            self.assertTrue(all(list(moves) == list(letters) for _, moves in found[1].values()))
            self.assertEqual((type(found), {type(one) for one in found[1].values()}), (tuple, {tuple}))
            self.assertTrue(Machines(letters, {"m": found}).unlike_word("m", "m") is None)
            sizes[len(found[1])] = sizes.get(len(found[1]), 0) + 1
        self.assertTrue(all(sizes.get(size, 0) > 20 for size in (1, 2, 3)), sizes)

    def reached(self, letters, reader):
        met = [reader[0]]
        for state in met:
            met += [after for after in dict.fromkeys(reader[1][state][1][letter] for letter in letters)
                    if after not in met]
        return met

    def test_both(self):
        one, other = Machines("ab", {"odd": ODD}), Machines("ab", {"last": LAST, "ever": EVER})
        both = one | other
        self.assertEqual(both, Machines("ab", {"odd": ODD, "last": LAST, "ever": EVER}))
        self.assertEqual((other | one).questions(), ["last", "ever", "odd"])
        self.assertEqual((one.questions(), other.questions()), (["odd"], ["last", "ever"]))
        with self.assertRaises(UnlikeLetters):
            one | Machines("ba", {"odd": ODD})
        with self.assertRaises(TakenName) as held:
            FIELD | Machines("ab", {"x": ODD, "last": ODD, "odd": ODD})
        self.assertEqual(held.exception.name, "last")
        for thing in any_objects():
            if not isinstance(thing, Machines):
                with self.assertRaises(TypeError):
                    one | thing

    def test_only(self):
        self.assertEqual(FIELD.only(names=("ever", "odd")), Machines("ab", {"ever": EVER, "odd": ODD}))
        self.assertEqual(FIELD.only(["last"]).questions(), ["last"])
        self.assertEqual(caught(BadKnown, FIELD.only, []).index, 0)
        self.assertEqual(caught(BadKnown, FIELD.only, ["odd", "odd"]).index, 1)
        for thing in any_objects():
            if not isinstance(thing, (list, tuple)):
                self.assertEqual(caught(BadKnown, FIELD.only, thing).index, 0)
            self.assertEqual(caught(BadKnown, FIELD.only, ["odd", "last", thing]).index, 2)

    def test_told_where_it_was(self):
        rng = random.Random(100)
        for _ in range(80):
            one = drawn_machines(rng)
            letters = one.letters()
            other = Machines(letters, {f"n{place}": drawn_reader(rng, letters, 2) for place in range(2)})
            both = one | other
            for known in (one.questions(), one.questions()[:1], []):
                for asked in one.questions():
                    self.assertIs(both.is_told(known, asked), one.is_told(known, asked))
                    self.assertIs(one.only([*dict.fromkeys([*known, asked])]).is_told(known, asked),
                                  one.is_told(known, asked))


class TestFacts(unittest.TestCase):
    def test_one_behind_the_other(self):
        rng = random.Random(101)
        for _ in range(200):
            field = drawn_machines(rng, 2, 4, 2)
            names = field.questions()
            for known in combinations(names, 1):
                middle = [name for name in names if field.is_told(known, name)]
                for asked in names:
                    self.assertIs(field.is_told(middle, asked), asked in middle)

    def test_no_longer_than_there_are_pairs(self):
        rng = random.Random(102)
        for _ in range(200):
            field = drawn_machines(rng)
            known, asked = drawn_names(rng, field.questions()), rng.choice(field.questions())
            pair = field.least_apart(known, asked)
            if pair is not None:
                many = 1
                for name in {*known, asked}:
                    many *= len(field.reader(name)[1])
                self.assertLessEqual(len(pair[1]), max(1, many * many))


if __name__ == "__main__":
    unittest.main()
