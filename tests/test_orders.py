"""Promises [73] to [78]."""

import random
import unittest
from itertools import combinations, permutations

from tests.helpers import all_seated, any_objects, caught, drawn_names, drawn_seats, drawn_windows
from twoworlds.errors import (BadAnswers, BadKnown, BadPeople, BadPlace, BadPlaces, BadPlan, BadWindow, BadWorld,
                              Crowded, NoQuestion)
from twoworlds.orders import Seats, is_swap, room, swaps

WINDOWS = {"al": (0, 1), "jo": [1, 2], "kay": (0, 2)}
SEATS = Seats(WINDOWS)


def room_by_counting(windows, first, last):
    return last - first + 1 - sum(first <= one and other <= last for one, other in windows.values())


def answers_of(seats, row):
    return {name: row[int(name[3:])] if name.startswith("at.") else row.index(name) for name in seats.questions()}


class TestMaking(unittest.TestCase):
    def test_making(self):
        windows, people, places = {"jo": [0, 1], "al": (0, 1)}, ["al"], [1, 0]
        seats = Seats(places=places, people=people, windows=windows)
        windows["jo"][1] = 0
        windows["kay"] = (0, 0)
        people.append("jo")
        places.clear()
        seats.windows().clear()
        seats.questions().clear()
        self.assertEqual(list(seats.windows().items()), [("jo", (0, 1)), ("al", (0, 1))])
        self.assertIs(type(seats.windows()["jo"]), tuple)
        self.assertEqual(seats.questions(), ["al", "at.1", "at.0"])
        self.assertEqual((len(seats), len(SEATS)), (2, 3))
        self.assertEqual(SEATS.questions(), ["al", "jo", "kay", "at.0", "at.1", "at.2"])
        self.assertEqual(Seats(WINDOWS, None, []).questions(), ["al", "jo", "kay"])
        self.assertEqual(Seats(WINDOWS, (), (2,)).questions(), ["at.2"])
        self.assertEqual(Seats(WINDOWS, ["kay"]).questions(), ["kay", "at.0", "at.1", "at.2"])
        self.assertEqual(Seats({"a" * 40: (0, 0), "x.y": (1, 1)}).home(), ["a" * 40, "x.y"])

    def test_equality(self):
        self.assertTrue(SEATS == Seats({"al": [0, 1], "jo": [1, 2], "kay": [0, 2]}, ("al", "jo", "kay"), (0, 1, 2)))
        self.assertFalse(SEATS != Seats(WINDOWS))
        self.assertFalse(SEATS == Seats(dict(list(WINDOWS.items())[::-1]), ["al", "jo", "kay"]))
        self.assertFalse(SEATS == Seats({**WINDOWS, "jo": (0, 2)}))
        self.assertFalse(SEATS == Seats(WINDOWS, ["al", "kay", "jo"]))
        self.assertFalse(SEATS == Seats(WINDOWS, None, [0, 1]))
        self.assertFalse(SEATS == Seats(WINDOWS, None, [0, 2, 1]))
        for thing in any_objects():
            self.assertFalse(SEATS == thing)

    def test_bad_windows(self):
        for thing in any_objects():
            if not isinstance(thing, dict) or not thing:
                self.assertIsNone(caught(BadWindow, Seats, thing, 3, 3).name)
            good = isinstance(thing, (list, tuple)) and thing in ((1, 2), [0, 1], [1, 2], (0, 1))
            if not good:
                self.assertEqual(caught(BadWindow, Seats, {"a": (0, 2), "b": thing, "c": 5}, 3, 3).name, "b")
            for bad in ((thing, 1), (1, thing)):
                if type(thing) is not int or not (bad[0] <= bad[1] and 0 <= bad[0] and bad[1] < 3):
                    self.assertEqual(caught(BadWindow, Seats, {"a": (0, 2), "b": bad, "c": 5}, 3, 3).name, "b")
        for bad in ((1, 0), (-1, 1), (0, 3), (3, 3), (False, True), (0, True), (0, 1, 2), (0,), {0: 0, 1: 1}, "01"):
            self.assertEqual(caught(BadWindow, Seats, {"a": (0, 2), "b": bad, "c": 5}, 3, 3).name, "b")
        for name in (1, None, True, "", "A", "a" * 41, ("a",), "a b", "at.", "at.0", "at.x", "a\n"):
            self.assertEqual(caught(BadWindow, Seats, {"a": (0, 2), name: (0, 2), "c": 5}, 3, 3).name, name)
        self.assertEqual(Seats({"at": (0, 1), "att.0": (0, 1)}).questions()[:2], ["at", "att.0"])

    def test_crowded(self):
        error = caught(Crowded, Seats, {"a": (1, 2), "b": (1, 1), "c": (1, 1), "d": (0, 3)}, 3, 3)
        self.assertEqual((error.first, error.last), (1, 1))
        error = caught(Crowded, Seats, {"a": (1, 2), "b": (1, 2), "c": (1, 2), "d": (0, 3)}, 3, 3)
        self.assertEqual((error.first, error.last), (1, 2))
        rng = random.Random(73)
        seen = 0
        for _ in range(400):
            windows = drawn_windows(rng, 5)
            n = len(windows)
            crowded = [(first, last) for first in range(n) for last in range(first, n)
                       if room_by_counting(windows, first, last) < 0]
            error = caught(Crowded, Seats, windows)
            self.assertEqual([] if error is None else [(error.first, error.last)], crowded[:1])
            self.assertEqual(error is None, len(all_seated(windows)) > 0)
            seen += error is None
        self.assertTrue(50 < seen < 350, seen)

    def test_bad_people_and_places(self):
        for thing in any_objects():
            if thing is not None and not isinstance(thing, (list, tuple)):
                self.assertEqual(caught(BadPeople, Seats, WINDOWS, thing, 3).index, 0)
                self.assertEqual(caught(BadPlaces, Seats, WINDOWS, [], thing).index, 0)
            self.assertEqual(caught(BadPeople, Seats, WINDOWS, ["jo", thing], 3).index, 1)
            if type(thing) is not int or not 0 <= thing <= 2:
                self.assertEqual(caught(BadPlaces, Seats, WINDOWS, ["jo"], [2, 1, thing]).index, 2)
        self.assertEqual(caught(BadPeople, Seats, WINDOWS, ["jo", "al", "jo", "kay"], 3).index, 2)
        self.assertEqual(caught(BadPeople, Seats, WINDOWS, "al", 3).index, 0)
        self.assertEqual(caught(BadPlaces, Seats, WINDOWS, ["jo"], [2, 0, 2]).index, 2)
        self.assertEqual(caught(BadPlaces, Seats, WINDOWS, ["jo"], [-1]).index, 0)
        self.assertEqual(caught(BadPlaces, Seats, WINDOWS, ["jo"], [0, 3]).index, 1)
        self.assertEqual(caught(BadPlaces, Seats, WINDOWS, [], []).index, 0)
        self.assertEqual(caught(BadPlaces, Seats, WINDOWS, (), ()).index, 0)
        self.assertEqual(Seats(WINDOWS, [], None).questions(), ["at.0", "at.1", "at.2"])


class TestWorlds(unittest.TestCase):
    def test_answers(self):
        self.assertEqual(list(SEATS.answers(world=["kay", "al", "jo"]).items()), [
            ("al", 1), ("jo", 2), ("kay", 0), ("at.0", "kay"), ("at.1", "al"), ("at.2", "jo")])
        self.assertEqual(SEATS.answers(("al", "jo", "kay"))["at.2"], "kay")
        self.assertEqual(Seats(WINDOWS, ["kay"], [1]).answers(["kay", "al", "jo"]), {"kay": 0, "at.1": "al"})
        self.assertIn(SEATS.home(), all_seated(WINDOWS))

    def test_bad_worlds(self):
        for thing in [*any_objects(), ["al", "jo"], ["jo", "al", "kay"], ["al", "al", "kay"], ["al", "kay", "kay"],
                      ["al", "jo", "kay", "al"], ["al", "jo", "zz"], ["al", "jo", None], ("jo", "al", "kay"),
                      {"al": 0, "jo": 1, "kay": 2}, "al", ["al", "jo", ["kay"]], [0, 1, 2]]:
            self.assertIs(caught(BadWorld, SEATS.answers, thing).thing, thing)

    def test_rooms(self):
        rng = random.Random(75)
        for _ in range(100):
            seats = drawn_seats(rng, 6)
            windows = seats.windows()
            for first in range(len(windows)):
                for last in range(first, len(windows)):
                    self.assertEqual(room(seats, first, last), room_by_counting(windows, first, last))
        self.assertEqual(room(last=1, seats=SEATS, first=0), 1)

    def test_bad_places(self):
        for thing in any_objects():
            if type(thing) is not int or not 0 <= thing <= 2:
                self.assertIs(caught(BadPlace, room, SEATS, thing, "zz").thing, thing)
                self.assertIs(caught(BadPlace, room, SEATS, 1, thing).thing, thing)
        for first, last, bad in ((3, 5, 3), (2, 3, 3), (2, 1, 1), (1, -1, -1), (-1, 0, -1), (True, 1, True), (2, 0, 0)):
            self.assertIs(caught(BadPlace, room, SEATS, first, last).thing, bad)

    def test_a_row_just_if_no_room_is_below_0(self):
        rng = random.Random(751)
        for _ in range(300):
            windows = drawn_windows(rng, 5)
            n = len(windows)
            rooms = [room_by_counting(windows, first, last) for first in range(n) for last in range(first, n)]
            self.assertEqual(min(rooms) >= 0, len(all_seated(windows)) > 0)
            if min(rooms) >= 0:
                self.assertIn(Seats(windows).home(), all_seated(windows))


class TestSwaps(unittest.TestCase):
    def plain_swaps(self, windows):
        people, rows, out = list(windows), all_seated(windows), []
        for one, other in combinations(people, 2):
            for first, last in combinations(range(len(people)), 2):
                for row in rows:
                    if {row[first], row[last]} == {one, other}:
                        bent = list(row)
                        bent[first], bent[last] = row[last], row[first]
                        if bent in rows:
                            out.append((one, other, first, last))
                            break
        return out

    def test_drawn(self):
        rng = random.Random(76)
        for _ in range(150):
            seats = drawn_seats(rng, 5)
            right = self.plain_swaps(seats.windows())
            self.assertEqual(swaps(seats), right)
            people = list(seats.windows())
            for one, other in permutations(people, 2):
                for first in range(len(people)):
                    for last in range(len(people)):
                        thing = (one, other, first, last)
                        self.assertIs(is_swap(seats, thing), thing in right)
                        self.assertIs(is_swap(seats, list(thing)), thing in right)

    def test_the_room_that_is_asked(self):
        rng = random.Random(761)
        for _ in range(150):
            seats = drawn_seats(rng, 6)
            windows, found = seats.windows(), swaps(seats)
            for one, other in combinations(windows, 2):
                for first, last in combinations(range(len(windows)), 2):
                    good = all(windows[name][0] <= first and last <= windows[name][1] for name in (one, other))
                    for low in range(len(windows)):
                        for high in range(low, len(windows)):
                            inside = sum(low <= place <= high for place in (first, last))
                            out = sum(windows[name][0] < low or high < windows[name][1] for name in (one, other))
                            good = good and room(seats, low, high) >= (0, 1, out)[inside]
                    self.assertIs((one, other, first, last) in found, good)

    def test_any_objects(self):
        seats = Seats({"a": (0, 1), "b": (0, 1)})
        self.assertEqual(swaps(seats), [("a", "b", 0, 1)])
        self.assertIs(is_swap(thing=("a", "b", 0, 1), seats=seats), True)
        for thing in any_objects():
            self.assertIs(is_swap(seats, thing), False)
            for bent in ((thing, "b", 0, 1), ("a", thing, 0, 1), ("a", "b", thing, 1), ("a", "b", 0, thing)):
                self.assertIs(is_swap(seats, bent), type(thing) is type(bent[bent.index(thing)]) and bent in (
                    ("a", "b", 0, 1),) and not any(type(part) is bool for part in bent))
        for bent in (("a", "b", False, True), ("b", "a", 0, 1), ("a", "b", 1, 0), ("a", "b", 0, 1, 0), ("a", "b", 0),
                     {"a": 1, "b": 2, 0: 3, 1: 4}, ("a", "a", 0, 1), ("a", "b", 0, 0), "ab01"):
            self.assertIs(is_swap(seats, bent), False)
        self.assertEqual(swaps(Seats({"a": (0, 0)})), [])


class TestTold(unittest.TestCase):
    def test_drawn(self):
        rng = random.Random(77)
        told = 0
        for _ in range(600):
            seats = drawn_seats(rng, 5)
            known, asked = drawn_names(rng, seats.questions())[:rng.randint(0, 3)], rng.choice(seats.questions())
            rows = [answers_of(seats, row) for row in all_seated(seats.windows())]
            seen = {}
            right = all(seen.setdefault(tuple(row[name] for name in known), row[asked]) == row[asked] for row in rows)
            told += right
            plan, pair = seats.plan(known, asked), seats.apart(known, asked)
            self.assertEqual((seats.is_told(known, asked), plan is not None, pair is None), (right,) * 3)
            if right:
                self.look_at_plan(seats, known, asked, plan)
                for row in rows:
                    self.assertEqual(seats.found(known, asked, plan, row), row[asked])
            else:
                self.assertIs(seats.are_apart(known, asked, pair), True)
                self.assertIs(type(pair), tuple)
                self.assertEqual([type(row) for row in pair], [list, list])
                one, other = answers_of(seats, pair[0]), answers_of(seats, pair[1])
                self.assertTrue(all(one[name] == other[name] for name in known) and one[asked] != other[asked])
                self.assertIs(seats.is_plan(known, asked, {}), False)
        self.assertTrue(100 < told < 500, told)

    def look_at_plan(self, seats, known, asked, plan):
        windows = seats.windows()

        def stands(question, one, other, first, last):
            return int(question[3:]) in (first, last) if question.startswith("at.") else question in (one, other)
        right = [] if asked in known else [
            (one, other, first, last) for one, other in combinations(windows, 2)
            for first, last in combinations(range(len(windows)), 2)
            if all(windows[name][0] <= first and last <= windows[name][1] for name in (one, other))
            and stands(asked, one, other, first, last)
            and not any(stands(question, one, other, first, last) for question in known)]
        self.assertEqual(sorted(plan), sorted(right))
        self.assertIs(seats.is_plan(known, asked, plan), True)
        self.assertIs(seats.is_plan(known, asked, {key: list(plan[key]) for key in plan}), True)
        self.assertIs(seats.is_plan(known, asked, {**plan, ("x", "y", 0, 1): (0, 0)}), False)
        for key, (first, last) in plan.items():
            inside = sum(first <= place <= last for place in key[2:])
            out = sum(windows[name][0] < first or last < windows[name][1] for name in key[:2])
            self.assertLess(room(seats, first, last), (0, 1, out)[inside])
            bent = {other: plan[other] for other in plan if other != key}
            self.assertIs(seats.is_plan(known, asked, bent), False)
            self.assertIs(seats.is_plan(known, asked, {**bent, (key[1], key[0], *key[2:]): plan[key]}), False)
            self.assertIs(seats.is_plan(known, asked, {**bent, (*key[:2], key[3], key[2]): plan[key]}), False)
            for thing in (None, (first,), (last + 1, first), (first, len(windows)), (-1, last), (first, last, last), [],
                          "01", {first: last}):
                self.assertIs(seats.is_plan(known, asked, {**plan, key: thing}), False)
            for low in range(len(windows)):
                for high in range(low, len(windows)):
                    inside = sum(low <= place <= high for place in key[2:])
                    out = sum(windows[name][0] < low or high < windows[name][1] for name in key[:2])
                    self.assertIs(seats.is_plan(known, asked, {**plan, key: (low, high)}),
                                  room(seats, low, high) < (0, 1, out)[inside])

    def test_truth_values(self):
        self.assertEqual(Seats({"a": (0, 1), "b": (0, 1), "c": (2, 2), "d": (2, 3)}).plan([], "c"), {})
        seats = Seats({"a": (0, 2), "b": (0, 1), "c": (0, 0)})
        plan = seats.plan([], "a")
        self.assertEqual(list(plan), [("a", "b", 0, 1)])
        self.assertIs(seats.is_plan([], "a", plan), True)
        stretch = plan[("a", "b", 0, 1)]
        self.assertIs(seats.is_plan([], "a", {("a", "b", False, True): stretch}), False)
        self.assertIs(seats.is_plan([], "a", {("a", "b", 0, True): stretch}), False)
        self.assertIs(seats.is_plan([], "a", {("a", "b", 0, 1): (False, False)}), False)
        self.assertIs(seats.is_plan([], "a", {("a", "b", 0, 1): (0, 0)}), True)

    def test_any_objects(self):
        one = Seats({"a": (0, 0), "b": (1, 1)})
        for thing in any_objects():
            self.assertIs(one.is_plan([], "a", thing), thing == {})
            self.assertIs(SEATS.is_plan([], "al", thing), False)
            self.assertIs(caught(BadPlan, SEATS.found, [], "al", thing, 3).thing, thing)
            self.assertIs(SEATS.are_apart([], "al", thing), False)
            self.assertIs(SEATS.is_plan(["al"], "al", thing), thing == {})
        for thing in ((["al", "jo", "kay"],), (["al", "jo", "kay"], ["kay", "al", "jo"], []),
                      (["al", "jo", "kay"], ["jo", "al", "kay"]), (["al", "jo", "kay"], ["al", "jo", "kay"]),
                      (["al", "jo", "kay"], ["al", "kay", "jo"])):
            self.assertIs(SEATS.are_apart([], "al", thing), False)
        self.assertIs(SEATS.are_apart(thing=[("al", "jo", "kay"), ["kay", "al", "jo"]], asked="al", known=[]), True)

    def test_found(self):
        seats = Seats(WINDOWS)
        known, answers = ["al", "at.2"], {"al": 1, "at.2": "jo", "jo": None}
        plan = seats.plan(known, "kay")
        self.assertEqual(seats.found(answers=answers, plan=plan, asked="kay", known=known), 0)
        self.assertEqual(seats.found(known, "at.1", seats.plan(known, "at.1"), answers), "al")
        for bad in ({"al": 1}, {}, None, [], {"al": 2, "at.2": "jo"}, {"al": True, "at.2": "jo"}, {"al": 1, "at.2": 1},
                    {"al": 1, "at.2": "zz"}, {"al": 1, "at.2": "al"}, {"al": "1", "at.2": "jo"},
                    {"al": [1], "at.2": "jo"}, {"al": 1, "at.2": ["jo"]}, {"al": -1, "at.2": "jo"}, {"al": 1, "at.2": {}},
                    {"al": None, "at.2": None}):
            self.assertIs(caught(BadAnswers, seats.found, known, "kay", plan, bad).thing, bad)
        tight = Seats({"a": (0, 2), "b": (0, 1), "c": (0, 1)})
        plan = tight.plan(["b"], "c")
        self.assertEqual(tight.found(["b"], "c", plan, {"b": 1}), 0)
        tight = Seats({"a": (0, 1), "b": (0, 1), "c": (0, 2)}, None, [0])
        bad = {"c": 0}
        self.assertIs(caught(BadAnswers, tight.found, ["c"], "c", {}, bad).thing, bad)
        self.assertEqual(tight.found(["c"], "c", {}, {"c": 2}), 2)

    def test_order_of_errors(self):
        for work, rest in [(SEATS.is_told, ()), (SEATS.plan, ()), (SEATS.is_plan, (3,)), (SEATS.found, (3, 3)),
                           (SEATS.apart, ()), (SEATS.are_apart, (3,))]:
            for thing in any_objects():
                if not isinstance(thing, (list, tuple)):
                    self.assertEqual(caught(BadKnown, work, thing, "zz", *rest).index, 0)
                self.assertEqual(caught(BadKnown, work, ["al", "at.1", thing], "zz", *rest).index, 2)
                self.assertIs(caught(NoQuestion, work, ["at.2"], thing, *rest).name, thing)
            self.assertEqual(caught(BadKnown, work, ["al", "at.1", "al"], "zz", *rest).index, 2)
            self.assertEqual(caught(BadKnown, work, ["at.3"], "zz", *rest).index, 0)
        some = Seats(WINDOWS, ["al"], [0])
        self.assertEqual(caught(BadKnown, some.is_told, ["al", "jo"], "al").index, 1)
        self.assertEqual(caught(NoQuestion, some.is_told, ["al"], "at.1").name, "at.1")


if __name__ == "__main__":
    unittest.main()
