"""Promises [2] and [10] to [13], for each kind of field, and for views, mixes and bundles of them; [14] to [20] above."""

import random
import unittest

from tests.helpers import (DRAWS, any_objects, drawn_bundles, drawn_field, drawn_mix, drawn_names, drawn_view, some_worlds,
                           subsets)
from twoworlds import engine, hands
from twoworlds.errors import WorldError
from twoworlds.files import File


class TestPromise(unittest.TestCase):
    def look(self, rng, field):
        """Just one of plan and apart is None, a plan finds each world's answer, and a pair that parts is told to be one."""
        questions = field.questions()
        self.assertEqual(len(set(questions)), len(questions))
        known, asked = drawn_names(rng, questions), rng.choice(questions)
        plan, pair = field.plan(known, asked), field.apart(known, asked)
        told = field.is_told(known, asked)
        self.assertEqual((plan is None, pair is None), (not told, told))
        worlds = [field.home(), *some_worlds(rng, field)]
        if told:
            self.assertIs(field.is_plan(known, asked, plan), True)
            for world in worlds:
                answers = field.answers(world)
                self.assertEqual(list(answers), questions)
                given = {name: answers[name] for name in known}
                self.assertEqual(field.found(known, asked, plan, given), answers[asked])
                self.assertIs(field.are_apart(known, asked, (world, worlds[0])), False)
        else:
            self.assertIs(type(pair), tuple)
            self.assertIs(field.are_apart(known, asked, pair), True)
            self.assertIs(field.are_apart(known, asked, list(pair)[::-1]), True)
            one, other = field.answers(pair[0]), field.answers(pair[1])
            self.assertEqual([one[name] for name in known], [other[name] for name in known])
            self.assertNotEqual(one[asked], other[asked])
            for world in worlds:
                self.assertIs(field.are_apart(known, asked, (world, world)), False)
        for world in worlds[1:]:
            one, other = field.answers(world), field.answers(worlds[0])
            self.assertIs(field.are_apart(known, asked, (world, worlds[0])), all(
                one[name] == other[name] for name in known) and one[asked] != other[asked])
        return told

    def test_each_kind(self):
        for kind, draw in DRAWS.items():
            rng, told = random.Random(kind), 0
            for _ in range(60):
                told += self.look(rng, draw(rng))
            with self.subTest(kind):
                self.assertTrue(0 < told < 60, told)

    def test_views_mixes_and_bundles_of_each_kind(self):
        for kind, draw in DRAWS.items():
            rng, told = random.Random("above " + kind), 0
            for place in range(45):
                field = draw(rng)
                above = (drawn_view, drawn_bundles, lambda rng, field: drawn_mix(rng, 0))[place % 3](rng, field)
                told += self.look(rng, above)
            with self.subTest(kind):
                self.assertTrue(0 < told < 45, told)

    def test_deep_ones(self):
        rng, told = random.Random(2), 0
        for _ in range(200):
            told += self.look(rng, drawn_field(rng, 3))
        self.assertTrue(30 < told < 170, told)

    def test_any_objects(self):
        rng = random.Random(3)
        for _ in range(40):
            field = drawn_field(rng, 2)
            known, asked = drawn_names(rng, field.questions()), rng.choice(field.questions())
            plan = field.plan(known, asked)
            for thing in any_objects():
                self.assertIn(field.is_plan(known, asked, thing), (True, False))
                self.assertIn(field.are_apart(known, asked, thing), (True, False))
                for work, rest in ((field.answers, (thing,)), (field.found, (known, asked, thing, thing)),
                                   (field.found, (known, asked, plan, thing))):
                    try:
                        work(*rest)
                    except WorldError as e:
                        # Without a plan it is this None that is refused, and not the answers.
                        self.assertIs(e.thing, None if len(rest) == 4 and rest[2] is None else thing)


class TestAbove(unittest.TestCase):
    def test_the_engine(self):
        rng = random.Random(14)
        for _ in range(60):
            field = drawn_field(rng, 2)
            questions = field.questions()
            known, asked = drawn_names(rng, questions), rng.choice(questions)
            told = engine.told_by(field, known)
            self.assertEqual(told, [name for name in questions if field.is_told(known, name)])
            self.assertEqual(engine.told_by(field, told), told)
            self.assertIs(engine.is_closed(field, known), len(told) == len(known))
            of = [name for name in questions if name != asked][:5]
            files = subsets(of)
            tells = {tuple(file): field.is_told(file, asked) for file in files}
            least = [file for file in files if tells[tuple(file)] and not any(
                tells[tuple(name for name in file if name != left)] for left in file)]
            self.assertEqual(engine.least_files(field, asked, of), least)
            most = [file for file in files if not tells[tuple(file)] and all(
                tells[tuple(name for name in of if name in file or name == more)] for more in of if more not in file)]
            self.assertEqual(engine.secrets(field, asked, of), sorted(most, key=lambda file: [of.index(name) for name in file]))
            self.assertEqual(engine.idle(field, asked, of), [name for name in of if not any(name in file for file in least)])
            self.assertEqual(engine.needed(field, asked, of), [
                name for name in of if tells[tuple(of)] and not tells[tuple(one for one in of if one != name)]])

    def test_files_and_hands(self):
        rng = random.Random(18)
        for _ in range(60):
            field = drawn_field(rng, 2)
            questions = field.questions()
            asked, file = rng.choice(questions), File(field)
            for name in drawn_names(rng, questions):
                file.learn(name)
                self.assertEqual(file.told(), engine.told_by(field, file.known()))
                self.assertIs(file.tells(asked), field.is_told(file.known(), asked))
            held = {name: drawn_names(rng, questions) for name in ("jo", "al", "kay")}
            for group in subsets(list(held)):
                known = [name for name in questions if any(name in held[one] for one in group)]
                self.assertIs(hands.knows(field, held, group, asked), field.is_told(known, asked))
            right = [] if field.is_told(held["jo"], asked) else [
                name for name in questions if name in held["jo"] or not field.is_told([*held["jo"], name], asked)]
            self.assertEqual(hands.may_tell(field, held, "jo", asked), right)


if __name__ == "__main__":
    unittest.main()
