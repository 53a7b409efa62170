"""Promise [107]."""

import random
import unittest

from tests.helpers import any_objects, caught, subsets
from tests.test_talks import HANDS, LINKS, TABLE, drawn_asked, drawn_talk
from twoworlds.cuts import cuts, lightest_cut, ways
from twoworlds.errors import BadHands, BadLinks, BadWeight, NoHand, NoQuestion
from twoworlds.talks import all_talked


class TestCuts(unittest.TestCase):
    def test_examples(self):
        links = [*LINKS, ("jo", "kay")]
        self.assertEqual(ways(asked="s", name="kay", links=links, hands=HANDS, field=TABLE), [
            [("jo", "al"), ("al", "kay")], [("al", "kay"), ("jo", "kay")]])
        self.assertEqual(cuts(asked="s", name="kay", links=links, hands=HANDS, field=TABLE), [
            [("al", "kay")], [("jo", "al"), ("jo", "kay")]])
        self.assertEqual(lightest_cut(weights=[1, 5, 1, 2], asked="s", name="kay", links=links, hands=HANDS, field=TABLE),
                         (3, [("jo", "al"), ("jo", "kay")]))
        self.assertEqual(lightest_cut(TABLE, HANDS, links, (1, 3, 1, 2), "kay", "s"), (3, [("al", "kay")]))
        self.assertEqual((ways(TABLE, HANDS, links, "jo", "b"), cuts(TABLE, HANDS, links, "jo", "b")), ([[]], []))
        self.assertIsNone(lightest_cut(TABLE, HANDS, links, [1, 1, 1, 1], "jo", "b"))
        self.assertEqual((ways(TABLE, HANDS, links[:2], "jo", "a"), cuts(TABLE, HANDS, links[:2], "jo", "a")), ([], [[]]))
        self.assertEqual(lightest_cut(TABLE, HANDS, links[:2], [1, 1], "jo", "a"), (0, []))
        self.assertEqual(lightest_cut(TABLE, HANDS, [], [], "jo", "a"), (0, []))

    def test_drawn(self):
        rng = random.Random(107)
        many = 0
        for _ in range(250):
            field, hands, links = drawn_talk(rng, 4, 5)
            name, asked = drawn_asked(rng, field, hands)

            def comes(places):
                return asked in all_talked(field, hands, [links[place] for place in places])[name]
            whole = list(range(len(links)))
            lists = sorted(subsets(whole), key=lambda places: (len(places), places))
            right = [places for places in lists if comes(places)
                     and not any(comes([one for one in places if one != left]) for left in places)]
            cut = [places for places in lists if not comes([one for one in whole if one not in places])
                   and all(comes([one for one in whole if one not in places or one == more]) for more in places)]
            found = ways(field, hands, links, name, asked)
            self.assertEqual(found, [[tuple(links[place]) for place in places] for places in right])
            told = cuts(field, hands, links, name, asked)
            self.assertEqual(told, [[tuple(links[place]) for place in places] for places in cut])
            self.assertEqual(cuts(field, hands, [list(link) for link in links], name, asked), told)
            # Each way has a link in common with each cut; both are the least such lists.
            self.assertTrue(all(set(one) & set(other) for one in right for other in cut))
            weights = [rng.randint(1, 4) for _ in links]
            light = [(sum(weights[place] for place in places), places) for places in cut]
            least = min([weight for weight, _ in light], default=None)
            first = [places for weight, places in light if weight == least][:1]
            self.assertEqual(lightest_cut(field, hands, links, weights, name, asked),
                             (least, [tuple(links[place]) for place in first[0]]) if first else None)
            many += len(cut) > 1
        self.assertGreater(many, 20)

    def test_errors(self):
        for work, rest in ((ways, ()), (cuts, ()), (lightest_cut, (3,))):
            for thing in any_objects():
                if not isinstance(thing, dict) or not thing:
                    self.assertIsNone(caught(BadHands, work, TABLE, thing, 3, *rest, "zz", "zz").name)
                if not isinstance(thing, (list, tuple)):
                    self.assertEqual(caught(BadLinks, work, TABLE, HANDS, thing, *rest, "zz", "zz").index, 0)
                self.assertEqual(caught(BadLinks, work, TABLE, HANDS, [LINKS[0], thing], *rest, "zz", "zz").index, 1)
            weights = ([1, 1, 1],) if rest else ()
            for thing in any_objects():
                self.assertIs(caught(NoHand, work, TABLE, HANDS, LINKS, *weights, thing, "zz").name, thing)
                if thing not in ("a", "b") or not isinstance(thing, str):
                    self.assertIs(caught(NoQuestion, work, TABLE, HANDS, LINKS, *weights, "kay", thing).name, thing)

    def test_bad_weights(self):
        for thing in any_objects():
            if not isinstance(thing, (list, tuple)):
                self.assertEqual(caught(BadWeight, lightest_cut, TABLE, HANDS, LINKS, thing, "zz", "zz").index, 0)
            if type(thing) is not int or thing < 1:
                self.assertEqual(caught(BadWeight, lightest_cut, TABLE, HANDS, LINKS, [1, thing, 0], "zz", "zz").index, 1)
                self.assertEqual(caught(BadWeight, lightest_cut, TABLE, HANDS, LINKS, [1, 1, 1, 1, thing], "zz", "zz").index, 4)
        for many in (0, 1, 2, 4, 7):
            self.assertEqual(caught(BadWeight, lightest_cut, TABLE, HANDS, LINKS, [1] * many, "zz", "zz").index, many)
        self.assertEqual(caught(BadLinks, lightest_cut, TABLE, HANDS, 3, 3, "zz", "zz").index, 0)


if __name__ == "__main__":
    unittest.main()
