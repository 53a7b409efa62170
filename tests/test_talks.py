"""Promises [105] and [106]."""

import random
import unittest
from itertools import permutations

from tests.helpers import any_objects, caught, drawn_field, drawn_names, subsets
from twoworlds.engine import told_by
from twoworlds.errors import BadHands, BadLinks, BadTelling, NoHand, NoQuestion
from twoworlds.tables import Table
from twoworlds.talks import all_talked, is_leak, is_shield, leak, shield, talked

TABLE = Table([{"s": x ^ y, "a": x, "b": y, "c": z} for x in (0, 1) for y in (0, 1) for z in (0, 1)])
HANDS = {"jo": ["b"], "al": ("a", "c"), "kay": []}
LINKS = [("jo", "al"), ("al", "kay"), ["kay", "jo"]]


def drawn_bits(rng, most_questions):
    """A table whose questions are sums of some of three bits."""
    names = rng.sample(["b", "a", "d", "c", "e"], rng.randint(2, most_questions))
    masks = dict(zip(names, rng.sample(range(1, 8), len(names))))
    return Table([{name: bin(number & masks[name]).count("1") % 2 for name in names} for number in range(8)])


def drawn_talk(rng, most_hands=3, most_links=4, most_questions=4):
    """A field, hands and links."""
    field = drawn_bits(rng, most_questions) if rng.random() < 0.7 else drawn_field(rng, 1)
    while len(field.questions()) > most_questions:
        field = drawn_field(rng, 1)
    names = rng.sample(["jo", "al", "kay", "bo"], rng.randint(min(2, most_hands), most_hands))
    hands = {name: drawn_names(rng, field.questions())[:rng.choice((0, 1, 1, 2))] for name in names}
    pairs = list(permutations(names, 2))
    links = rng.sample(pairs, rng.randint(0, min(most_links, len(pairs))))
    if rng.random() < 0.5:
        links = rng.sample(list(zip(names, names[1:] + names[:1])), len(names)) if len(names) > 1 else []
    return field, hands, links


def drawn_asked(rng, field, hands):
    """A hand and a question, more often one that it does not know at first."""
    both = [(name, asked) for name in hands for asked in field.questions()]
    new = [(name, asked) for name, asked in both if not field.is_told(hands[name], asked)]
    return rng.choice(new if new and rng.random() < 0.8 else both)


class Plain:
    """What hands know, by the plain rules; a state is a tuple of frozensets of what they have."""

    def __init__(self, field, hands, links):
        self.field, self.names, self.links, self.kept = field, list(hands), links, {}
        self.first = tuple(frozenset(self.told(frozenset(hands[name]))) for name in hands)

    def told(self, known):
        if known not in self.kept:
            self.kept[known] = frozenset(told_by(self.field, [name for name in self.field.questions() if name in known]))
        return self.kept[known]

    def tellings(self, state):
        for one, other in self.links:
            for name in self.field.questions():
                if name in state[self.names.index(one)]:
                    yield (one, other, name)

    def behind(self, state, telling):
        place = self.names.index(telling[1])
        return (*state[:place], self.told(state[place] | {telling[2]}), *state[place + 1:])

    def levels(self):
        """All states, by the number of tellings that lead there at least."""
        levels, seen = [[self.first]], {self.first}
        while levels[-1]:
            levels.append([])
            for state in levels[-2]:
                for telling in self.tellings(state):
                    after = self.behind(state, telling)
                    if after not in seen:
                        seen.add(after)
                        levels[-1].append(after)
        return levels[:-1]


class TestTalked(unittest.TestCase):
    def test_examples(self):
        self.assertEqual(list(talked(TABLE, HANDS, LINKS, []).items()), [("jo", ["b"]), ("al", ["a", "c"]), ("kay", [])])
        row = [("jo", "al", "b"), ["al", "kay", "s"], ("al", "kay", "a")]
        self.assertEqual(talked(tellings=row, links=LINKS, hands=HANDS, field=TABLE), {
            "jo": ["b"], "al": ["s", "a", "b", "c"], "kay": ["s", "a", "b"]})
        self.assertEqual(list(all_talked(links=LINKS, hands=HANDS, field=TABLE).items()), [
            (name, ["s", "a", "b", "c"]) for name in HANDS])
        self.assertEqual(all_talked(TABLE, HANDS, []), talked(TABLE, HANDS, (), ()))
        self.assertEqual(HANDS["jo"], ["b"])

    def test_drawn(self):
        rng = random.Random(105)
        for _ in range(150):
            field, hands, links = drawn_talk(rng)
            plain = Plain(field, hands, links)
            state, row = plain.first, []
            for _ in range(rng.randint(0, 5)):
                some = list(plain.tellings(state))
                if some:
                    row.append(rng.choice(some))
                    state = plain.behind(state, row[-1])
            told = talked(field, hands, links, row)
            self.assertEqual(list(told.items()), [(name, [one for one in field.questions() if one in known])
                                                  for name, known in zip(hands, state)])
            whole = {name: [one for one in field.questions() if any(
                one in state[place] for level in plain.levels() for state in level)]
                for place, name in enumerate(hands)}
            self.assertEqual(all_talked(field, hands, links), whole)
            self.assertEqual(list(all_talked(field, hands, links)), list(hands))
            fewer = all_talked(field, hands, links[1:])
            self.assertTrue(all(set(fewer[name]) <= set(whole[name]) for name in hands))
            # In whatever order, as long as something new can be told, it ends there.
            while True:
                new = [telling for telling in plain.tellings(state) if plain.behind(state, telling) != state]
                if not new:
                    break
                state = plain.behind(state, rng.choice(new))
            self.assertEqual([frozenset(whole[name]) for name in hands], list(state))

    def test_bad_tellings(self):
        for thing in any_objects():
            if not isinstance(thing, (list, tuple)):
                self.assertEqual(caught(BadTelling, talked, TABLE, HANDS, LINKS, thing).index, 0)
            self.assertEqual(caught(BadTelling, talked, TABLE, HANDS, LINKS, [("jo", "al", "b"), thing, 3]).index, 1)
            for bent in ((thing, "al", "b"), ("jo", thing, "b"), ("jo", "al", thing)):
                right = bent == ("jo", "al", "b")
                error = caught(BadTelling, talked, TABLE, HANDS, LINKS, [("jo", "al", "b"), bent])
                self.assertEqual(None if error is None else error.index, None if right else 1)
        for bad in (("jo", "kay", "b"), ("al", "jo", "a"), ("jo", "al", "a"), ("jo", "al", "zz"), ("kay", "jo", "b"),
                    ("jo", "al"), ("jo", "al", "b", "b"), "job", {"jo": 1, "al": 2, "b": 3}, ("jo", "jo", "b")):
            self.assertEqual(caught(BadTelling, talked, TABLE, HANDS, LINKS, [("jo", "al", "b"), bad, bad]).index, 1)
        # What was told can be told on, and not ahead of that.
        row = [("al", "kay", "a"), ("jo", "al", "b"), ("al", "kay", "s")]
        self.assertIsNone(caught(BadTelling, talked, TABLE, HANDS, LINKS, row))
        self.assertEqual(caught(BadTelling, talked, TABLE, HANDS, LINKS, row[::-1]).index, 0)
        self.assertEqual(caught(BadTelling, talked, TABLE, HANDS, LINKS, [row[0], row[2], row[1]]).index, 1)


class TestErrors(unittest.TestCase):
    WORKS = ((talked, (3,)), (all_talked, ()), (leak, ("zz", "zz")), (is_leak, ("zz", "zz", 3)), (shield, ("zz", "zz")),
             (is_shield, ("zz", "zz", 3)))

    def test_hands_and_links(self):
        for work, rest in self.WORKS:
            for thing in any_objects():
                if not isinstance(thing, dict) or not thing:
                    self.assertIsNone(caught(BadHands, work, TABLE, thing, 3, *rest).name)
                if thing not in ([], (), ["a"], ("a", "b")) or isinstance(thing, dict):
                    self.assertEqual(caught(BadHands, work, TABLE, {"jo": ["a"], "al": thing, "x": 3}, 3, *rest).name, "al")
                if not isinstance(thing, (list, tuple)):
                    self.assertEqual(caught(BadLinks, work, TABLE, HANDS, thing, *rest).index, 0)
                self.assertEqual(caught(BadLinks, work, TABLE, HANDS, [*LINKS, thing, 3], *rest).index, 3)
                self.assertEqual(caught(BadLinks, work, TABLE, HANDS, [("jo", thing), 3], *rest).index, 0)
            for name in (1, None, True, "", "A"):
                self.assertEqual(caught(BadHands, work, TABLE, {"jo": ["a"], name: ["a"], "x": 3}, 3, *rest).name, name)
            self.assertEqual(caught(BadHands, work, TABLE, {"jo": ["a"], "al": ["a", "a"]}, 3, *rest).name, "al")
            for bad in (("jo", "jo"), ("jo", "al", "al"), ("jo",), ("jo", "zz"), "jo", ("jo", "al"), ["jo", "al"], ("JO", "al"),
                        {"jo": 1, "al": 2}, ("al", "kay")):
                self.assertEqual(caught(BadLinks, work, TABLE, HANDS, [*LINKS[:2], bad, 3], *rest).index, 2)

    def test_names_and_asked(self):
        for work, rest in self.WORKS[2:]:
            for thing in any_objects():
                self.assertIs(caught(NoHand, work, TABLE, HANDS, LINKS, thing, "zz", *rest[2:]).name, thing)
                self.assertIs(caught(NoQuestion, work, TABLE, HANDS, LINKS, "jo", *(
                    (thing, *rest[2:]) if thing not in ("a", "b") or not isinstance(thing, str) else ("zz", *rest[2:]))).name,
                    thing if thing not in ("a", "b") or not isinstance(thing, str) else "zz")


class TestLeaks(unittest.TestCase):
    def test_examples(self):
        self.assertEqual(leak(asked="s", name="kay", links=LINKS, hands=HANDS, field=TABLE),
                         [("jo", "al", "b"), ("al", "kay", "s")])
        self.assertEqual(leak(TABLE, HANDS, LINKS, "jo", "b"), [])
        self.assertIsNone(leak(TABLE, HANDS, LINKS[:2], "jo", "a"))
        self.assertEqual(shield(asked="a", name="jo", links=LINKS[:2], hands=HANDS, field=TABLE), {
            "jo": ["b"], "al": ["s", "a", "b", "c"], "kay": ["s", "a", "b", "c"]})
        self.assertIsNone(shield(TABLE, HANDS, LINKS, "jo", "a"))
        row = [("jo", "al", "b"), ("jo", "al", "b"), ["al", "kay", "a"], ("al", "kay", "b")]
        self.assertIs(is_leak(thing=row, asked="s", name="kay", links=LINKS, hands=HANDS, field=TABLE), True)
        self.assertIs(is_leak(TABLE, HANDS, LINKS, "kay", "s", tuple(row)), True)
        self.assertIs(is_leak(TABLE, HANDS, LINKS, "kay", "c", row), False)
        self.assertIs(is_leak(TABLE, HANDS, LINKS, "kay", "s", row[:3]), False)
        self.assertIs(is_leak(TABLE, HANDS, LINKS, "jo", "b", []), True)

    def test_drawn(self):
        rng = random.Random(106)
        lengths = {}
        for _ in range(900):
            field, hands, links = drawn_talk(rng, rng.choice((3, 3, 4)), 4)
            plain, (name, asked) = Plain(field, hands, links), drawn_asked(rng, field, hands)
            place = list(hands).index(name)
            short = [at for at, level in enumerate(plain.levels()) if any(asked in state[place] for state in level)]
            found, guard = leak(field, hands, links, name, asked), shield(field, hands, links, name, asked)
            self.assertEqual(None if found is None else len(found), short[0] if short else None)
            self.assertEqual(found is None, guard is not None)
            size = None if found is None else min(len(found), 3)
            lengths[size] = lengths.get(size, 0) + 1
            if found is not None:
                self.assertEqual((type(found), {type(telling) for telling in found} | {tuple}), (list, {tuple}))
                self.look_at_leak(rng, field, hands, links, name, asked, plain, found)
            else:
                self.look_at_shield(rng, field, hands, links, name, asked, guard)
        self.assertTrue(all(lengths.get(size, 0) > 10 for size in (None, 0, 1, 2)) and lengths.get(3, 0) > 3, lengths)

    def look_at_leak(self, rng, field, hands, links, name, asked, plain, found):
        def right(row):
            state = plain.first
            for telling in row:
                if telling not in list(plain.tellings(state)):
                    return False
                state = plain.behind(state, telling)
            return asked in state[list(hands).index(name)]
        self.assertTrue(right(found))
        some = [(one, other, question) for one in hands for other in hands for question in field.questions()]
        rows = [found, found + found, found + [rng.choice(some)], [rng.choice(some), *found], found[::-1]]
        rows += [found[:at] + found[at + 1:] for at in range(len(found))]
        rows += [found[:at] + [rng.choice(some)] + found[at + 1:] for at in range(len(found))]
        for row in rows:
            self.assertIs(is_leak(field, hands, links, name, asked, row), right(row))
        self.assertIs(is_leak(field, hands, links, name, asked, [list(telling) for telling in found]), True)

    def look_at_shield(self, rng, field, hands, links, name, asked, guard):
        questions = field.questions()

        def right(thing):
            if set(thing) != set(hands):
                return False
            for one in hands:
                if not set(hands[one]) <= set(thing[one]) or set(told_by(field, thing[one])) != set(thing[one]):
                    return False
            return asked not in thing[name] and all(set(thing[one]) <= set(thing[other]) for one, other in links)
        self.assertTrue(right(guard))
        self.assertEqual(list(guard), list(hands))
        self.assertIs(is_shield(field, hands, links, name, asked, guard), True)
        turned = {one: tuple(guard[one][::-1]) for one in list(guard)[::-1]}
        self.assertIs(is_shield(field, hands, links, name, asked, turned), True)
        for _ in range(12):
            bent = dict(guard)
            for one in rng.sample(list(hands), rng.randint(1, len(hands))):
                bent[one] = rng.choice(subsets(questions) + [questions, told_by(field, guard[one] and guard[one][:1])])
            self.assertIs(is_shield(field, hands, links, name, asked, bent), right(bent))
        for one in hands:
            more = {**guard, one: questions}
            self.assertIs(is_shield(field, hands, links, name, asked, more), right(more))
            for bad in (guard[one] + ["zz"], guard[one] + [questions[0]] * 2, None, "".join(guard[one]), 1,
                        {name: 1 for name in guard[one]}):
                self.assertIs(is_shield(field, hands, links, name, asked, {**guard, one: bad}), False)
            self.assertIs(is_shield(field, hands, links, name, asked, {
                other: guard[other] for other in guard if other != one}), False)
        self.assertIs(is_shield(field, hands, links, name, asked, {**guard, "zz": []}), False)

    def test_any_objects(self):
        quiet = {"jo": ["b"], "al": []}
        for thing in any_objects():
            self.assertIs(is_leak(TABLE, quiet, [], "jo", "b", thing), isinstance(thing, (list, tuple)) and not thing)
            self.assertIs(is_leak(TABLE, HANDS, LINKS, "kay", "s", thing), False)
            self.assertIs(is_leak(TABLE, HANDS, LINKS, "kay", "s", [("jo", "al", "b"), ("al", "kay", "s"), thing]), False)
            self.assertIs(is_shield(TABLE, quiet, [], "jo", "a", thing), False)
            self.assertIs(is_shield(TABLE, quiet, [], "jo", "a", {"jo": ["b"], "al": thing}),
                          isinstance(thing, (list, tuple)) and thing in ([], (), ["a"], [], ("a",)))

    def test_as_short_as_can_be_with_many_parts(self):
        bits = ["p", "q", "r"]
        table = Table([{**{name: number >> at & 1 for at, name in enumerate(bits)},
                        "s": bin(number).count("1") % 2} for number in range(8)])
        hands = {"a": ["p"], "b": ["q"], "c": ["r"], "d": []}
        links = [("a", "b"), ("b", "c"), ("c", "d"), ("d", "a")]
        # p to b, p and q to c, which knows s then, and s to d.
        self.assertEqual(len(leak(table, hands, links, "d", "s")), 4)
        self.assertEqual(len(leak(table, hands, links, "a", "s")), 5)
        # p has to go along all links to d; nothing else tells it sooner.
        self.assertEqual(len(leak(table, hands, links, "d", "p")), 3)


if __name__ == "__main__":
    unittest.main()
