"""Promises [77] and [79] to [82]."""

import random
import unittest

from tests.helpers import all_seated, any_objects, caught, drawn_seats
from twoworlds.errors import BadFacts, BadNumber, BadPeople, BadWorld, NoPerson, NoQuestion, SamePerson
from twoworlds.orders import Seats, swaps
from twoworlds.rows import (can_be, earliest, is_way, many_rows, number_of, orders, row_at, row_with, stands, tied, way)

WINDOWS = {"al": (0, 1), "jo": (1, 2), "kay": (0, 2)}
SEATS = Seats(WINDOWS)


def drawn_facts(rng, seats, rows):
    """Some facts of a row, now and then bent to what may be of no row, or of another kind."""
    row = rng.choice(rows)
    answers = seats.answers(row)
    facts = {name: answers[name] for name in rng.sample(list(answers), rng.randint(0, min(3, len(answers))))}
    for name in facts:
        if rng.random() < 0.2:
            facts[name] = rng.choice((rng.randrange(len(row)), rng.choice(row), True, None, [0], -1, 99))
    return facts


def with_facts(seats, rows, facts):
    return [row for row in rows if all(type(facts[name]) is type(seats.answers(row)[name])
                                       and facts[name] == seats.answers(row)[name] for name in facts)]


class TestWays(unittest.TestCase):
    def test_drawn(self):
        rng = random.Random(77)
        for _ in range(300):
            seats = drawn_seats(rng, 6)
            rows = all_seated(seats.windows())
            row, other = rng.choice(rows), rng.choice(rows)
            found = way(seats, row, other)
            self.assertIs(type(found), list)
            self.assertIs(is_way(seats, row, other, found), True)
            self.assertIs(is_way(seats, tuple(row), tuple(other), tuple(list(pair)[::-1] for pair in found)), True)
            self.assertEqual(found == [], row == other)
            now, people = list(row), list(seats.windows())
            for pair in found:
                self.assertIs(type(pair), tuple)
                self.assertLess(people.index(pair[0]), people.index(pair[1]))
                one, last = now.index(pair[0]), now.index(pair[1])
                now[one], now[last] = now[last], now[one]
                self.assertIn(now, rows)
                self.assertFalse(any(row.index(name) == other.index(name) for name in pair))
            self.assertEqual(now, other)
            for at, pair in enumerate(found):
                self.assertIs(is_way(seats, row, other, found[:at] + found[at + 1:]), False)
                for bent in ((pair[0], pair[0]), pair[:1], (pair[0], "zz"), "ab", None, (*pair, pair[0]), {}, (pair[0], 1)):
                    self.assertIs(is_way(seats, row, other, found[:at] + [bent] + found[at + 1:]), False)
                self.assertIs(is_way(seats, row, other, [pair, pair, *found]),
                              is_way(seats, row, row, [pair, pair]))

    def test_bent(self):
        # By al and jo the row ["al", "jo", "kay"] would become one in which jo stands outside of its window.
        row, other = ["al", "jo", "kay"], ["kay", "al", "jo"]
        self.assertIs(is_way(SEATS, row, other, [("jo", "kay"), ("al", "kay")]), True)
        self.assertIs(is_way(SEATS, row, other, [("al", "jo"), ("jo", "kay")]), False)
        self.assertIs(is_way(SEATS, row, row, []), True)
        self.assertIs(is_way(SEATS, row, row, [("jo", "kay"), ("kay", "jo")]), True)
        self.assertIs(is_way(SEATS, row, row, [("al", "jo"), ("al", "jo")]), False)
        self.assertIs(is_way(SEATS, row, other, [("jo", "kay"), ("al", "kay"), ("al", "jo")]), False)
        self.assertEqual(way(other=("al", "kay", "jo"), seats=SEATS, row=row), [("jo", "kay")])
        for thing in any_objects():
            self.assertIs(is_way(SEATS, row, row, thing), thing in ([], ()) and isinstance(thing, (list, tuple)))
            self.assertIs(is_way(SEATS, row, other, [("jo", "kay"), thing]), False)

    def test_bad_rows(self):
        row = ["al", "jo", "kay"]
        for thing in [*any_objects(), ["jo", "al", "kay"], ["al", "al", "kay"]]:
            for work, rest in ((way, ()), (is_way, (3,))):
                self.assertIs(caught(BadWorld, work, SEATS, thing, "zz", *rest).thing, thing)
                self.assertIs(caught(BadWorld, work, SEATS, row, thing, *rest).thing, thing)


class TestFacts(unittest.TestCase):
    def test_drawn(self):
        rng = random.Random(79)
        none = 0
        for _ in range(500):
            seats = drawn_seats(rng, 5)
            windows = seats.windows()
            rows = all_seated(windows)
            facts, asked = drawn_facts(rng, seats, rows), rng.choice(seats.questions())
            left = with_facts(seats, rows, facts)
            self.assertEqual(many_rows(seats, facts), len(left))
            if left:
                self.assertEqual(can_be(seats, facts, asked), sorted({seats.answers(row)[asked] for row in left}))
                self.assertIn(row_with(seats, facts), left)
            else:
                none += 1
                self.assertIs(caught(BadFacts, can_be, seats, facts, "zz").thing, facts)
                self.assertIs(caught(BadFacts, row_with, seats, facts).thing, facts)
            name, other = rng.choice(list(windows)), rng.choice(list(windows))
            self.assertEqual(stands(seats, name), sorted({row.index(name) for row in rows}))
            if name != other:
                self.assertEqual(orders(seats, name, other), sorted({row.index(name) < row.index(other)
                                                                     for row in rows}))
            names = rng.sample(list(windows), rng.randint(0, len(windows)))
            order = [*names, *[one for one in windows if one not in names]]
            self.assertEqual(earliest(seats, names), min(rows, key=lambda row: [row.index(one) for one in order]))
        self.assertTrue(30 < none < 300, none)

    def test_standing_by_rooms(self):
        rng = random.Random(791)
        for _ in range(100):
            seats = drawn_seats(rng, 6)
            windows = seats.windows()
            n = len(windows)
            for name, (first, last) in windows.items():
                right = [place for place in range(first, last + 1) if all(
                    high - low + 1 > sum(low <= one and other <= high for one, other in windows.values())
                    for low in range(place + 1) for high in range(place, n) if first < low or high < last)]
                self.assertEqual(stands(seats, name), right)

    def test_bad_facts(self):
        some = Seats(WINDOWS, ["al"], [2])
        for thing in any_objects():
            if thing != {} or not isinstance(thing, dict):
                for work, rest in ((can_be, ("zz",)), (row_with, ()), (many_rows, ())):
                    self.assertIs(caught(BadFacts, work, SEATS, thing, *rest).thing, thing)
            if type(thing) is not int or not 0 <= thing <= 1:
                facts = {"al": thing}
                self.assertEqual(many_rows(SEATS, facts), 0)
                for work, rest in ((can_be, ("zz",)), (row_with, ())):
                    self.assertIs(caught(BadFacts, work, SEATS, facts, *rest).thing, facts)
            facts = {"at.1": thing}
            self.assertEqual(many_rows(SEATS, facts), 0)
            self.assertIs(caught(BadFacts, row_with, SEATS, facts).thing, facts)
        for facts in ({"jo": 1}, {"at.0": "al"}, {"at.3": "al"}, {"al": 0, "kay": 2}, {2: "jo"}):
            self.assertIs(caught(BadFacts, many_rows, some, facts).thing, facts)
        self.assertEqual(many_rows(facts={"al": 0, "at.2": "kay"}, seats=some), 1)
        self.assertEqual(many_rows(SEATS, {"al": 0, "at.0": "kay"}), 0)
        self.assertEqual(many_rows(SEATS, {"al": 1, "jo": 1}), 0)
        self.assertEqual(many_rows(SEATS, {"at.0": "kay", "at.1": "kay"}), 0)
        self.assertEqual(can_be(SEATS, {"al": 1}, "al"), [1])
        self.assertEqual(can_be(asked="at.2", facts={"al": 0}, seats=SEATS), ["jo", "kay"])

    def test_order_of_errors(self):
        for thing in any_objects():
            self.assertIs(caught(NoQuestion, can_be, SEATS, {}, thing).name, thing)
            self.assertIs(caught(NoPerson, stands, SEATS, thing).name, thing)
            self.assertIs(caught(NoPerson, orders, SEATS, thing, "zz").name, thing)
            self.assertIs(caught(NoPerson, orders, SEATS, "al", thing).name, thing)
            self.assertIs(caught(BadWorld, number_of, SEATS, thing).thing, thing)
            if not isinstance(thing, (list, tuple)):
                self.assertEqual(caught(BadPeople, earliest, SEATS, thing).index, 0)
            self.assertEqual(caught(BadPeople, earliest, SEATS, ["al", "jo", thing]).index, 2)
        self.assertEqual(caught(NoPerson, stands, SEATS, "at.1").name, "at.1")
        self.assertEqual(caught(BadPeople, earliest, SEATS, ["al", "jo", "al"]).index, 2)
        self.assertEqual(caught(SamePerson, orders, SEATS, "al", "al").name, "al")
        self.assertEqual(orders(other="jo", one="al", seats=SEATS), [True])
        self.assertEqual(orders(SEATS, "jo", "al"), [False])
        self.assertEqual([type(one) for one in orders(SEATS, "kay", "al")], [bool, bool])
        # People who are not asked about are people all the same.
        some = Seats(WINDOWS, [], [1])
        self.assertEqual(stands(name="kay", seats=some), [0, 1, 2])
        self.assertEqual(earliest(names=("kay",), seats=some), ["kay", "al", "jo"])
        self.assertEqual(earliest(some, []), ["al", "jo", "kay"])


class TestTied(unittest.TestCase):
    def test_drawn(self):
        rng = random.Random(81)
        many = 0
        for _ in range(300):
            seats = drawn_seats(rng, 6)
            people = [name for name in seats.questions() if not name.startswith("at.")]
            groups = [{name} for name in seats.windows()]
            for one, other, _, _ in swaps(seats):
                joined = [group for group in groups if one in group or other in group]
                groups = [group for group in groups if group not in joined] + [set().union(*joined)]
            right = []
            for name in people:
                if not any(name in one for one in right):
                    right.append([one for one in people if any({one, name} <= group for group in groups)])
            self.assertEqual(tied(seats), right)
            many += len(right) > 1
        self.assertGreater(many, 50)

    def test_through_people_who_are_not_asked_about(self):
        windows = {"a": (0, 1), "b": (0, 2), "c": (1, 2)}
        self.assertEqual(tied(Seats(windows, ["c", "a"])), [["c", "a"]])
        self.assertEqual(tied(Seats({**windows, "d": (3, 3)}, ["d", "c", "a"])), [["d"], ["c", "a"]])
        self.assertEqual(tied(seats=Seats(windows, [])), [])

    def test_what_is_known_of_other_lists_tells_nothing(self):
        rng = random.Random(811)
        for _ in range(150):
            seats = drawn_seats(rng, 6)
            windows = Seats(seats.windows(), None, None)
            for group in tied(windows):
                places = {place for name in group for place in stands(windows, name)}
                others = [name for name in windows.windows() if name not in group]
                others += [f"at.{place}" for place in range(len(windows)) if place not in places]
                for name in group:
                    self.assertIs(windows.is_told(others, name), windows.is_told([], name))


class TestNumbers(unittest.TestCase):
    def test_drawn(self):
        rng = random.Random(82)
        for _ in range(150):
            seats = drawn_seats(rng, 6)
            rows = all_seated(seats.windows())
            self.assertEqual(many_rows(seats, {}), len(rows))
            for number in rng.sample(range(len(rows)), min(20, len(rows))):
                self.assertEqual(number_of(seats, rows[number]), number)
                self.assertEqual(number_of(seats, tuple(rows[number])), number)
                self.assertEqual(row_at(seats, number), rows[number])
            for bad in (len(rows), -1, len(rows) + 10 ** 14):
                self.assertEqual(caught(BadNumber, row_at, seats, bad).thing, bad)

    def test_any_objects(self):
        self.assertEqual([row_at(SEATS, number) for number in range(3)],
                         [["al", "jo", "kay"], ["al", "kay", "jo"], ["kay", "al", "jo"]])
        for thing in any_objects():
            if type(thing) is not int or not 0 <= thing <= 2:
                self.assertIs(caught(BadNumber, row_at, SEATS, thing).thing, thing)
        self.assertEqual(row_at(number=2, seats=SEATS), ["kay", "al", "jo"])
        self.assertEqual(number_of(row=["kay", "al", "jo"], seats=SEATS), 2)


if __name__ == "__main__":
    unittest.main()
