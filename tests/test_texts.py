"""Promises [108] and [109]."""

import random
import unittest

from tests.helpers import any_objects, caught, drawn_table
from twoworlds.errors import BadHands, BadLinks, BadText
from twoworlds.tables import Table
from twoworlds.texts import read_hands, read_links, read_table, write_hands, write_links, write_table

TABLE = Table([{"b": 0, "a": -12}, {"a": 999999999999999, "b": -999999999999999}, {"b": 0, "a": -12}])
TEXT = "asks b a\nrow 0 -12\nrow -999999999999999 999999999999999\nrow 0 -12\n"
HANDS = {"jo": ["b", "a.x"], "al": (), "kay": ["jo"]}
HANDS_TEXT = "hand jo b a.x\nhand al\nhand kay jo\n"
LINKS = [("jo", "al"), ["al", "jo"], ("x.y", "z" * 40)]
LINKS_TEXT = "link jo al\nlink al jo\nlink x.y " + "z" * 40 + "\n"
READS = (read_table, read_hands, read_links)


def bent_texts(text):
    """A text with lines left out, doubled, put in, and blanks and newlines where none may be, or none where one must be."""
    lines = text.split("\n")[:-1]
    out = [text[:-1], text + "\n", "\n" + text, " " + text, text + " ", text.replace("\n", " \n"), text.replace("\n", "\n "),
           text.replace("\n", "\n\n"), text.replace("\n", "\r\n"), text.replace(" ", "\t"), text.upper(), text + "x\n",
           text + "\t\n", text.replace("\n", ""), text + "hand\n", text + "row\n", text + "link\n", text + "link a\n",
           text + "link a b c\n", text + "link a a\n", text + "hand A\n", text + "asks b\n"]
    out += [text[:at] + " " + text[at:] for at, sign in enumerate(text) if sign == " "]
    return out + ["".join(line + "\n" for line in [*lines, lines[0]])]


class TestTables(unittest.TestCase):
    def test_examples(self):
        self.assertEqual(write_table(table=TABLE), TEXT)
        self.assertTrue(read_table(text=TEXT) == TABLE)
        self.assertEqual(read_table("asks q\nrow 1\n").rows(), [{"q": 1}])

    def test_drawn(self):
        rng = random.Random(108)
        for _ in range(200):
            table = drawn_table(rng)
            rows = [{name: rng.choice((answer, -answer, rng.randint(-10 ** 15 + 1, 10 ** 15 - 1)))
                     for name, answer in row.items()} for row in table.rows()]
            table = Table(rows)
            text = write_table(table)
            self.assertTrue(read_table(text) == table)
            self.assertEqual(text.split("\n")[0], " ".join(["asks", *table.questions()]))
            self.assertEqual(text.split("\n")[1:-1], [" ".join(["row", *map(str, row.values())]) for row in table.rows()])
            self.assertEqual(read_table(text + text.split("\n")[1] + "\n").rows(), rows + rows[:1])

    def test_bad_texts(self):
        for bad in [*bent_texts(TEXT), "", "\n", "asks\n", "asks b a\n", "row 0 1\n", "asks\nrow\n", "asks b\nrow\n",
                    "asks b\nrow 0 0\n", "asks b a\nrow 0\n", "asks b b\nrow 0 0\n", "asks B\nrow 0\n", "ask b\nrow 0\n",
                    "asks b\nrows 0\n", "asks b\nrow 0", HANDS_TEXT, LINKS_TEXT, "asks b\nrow 0\nasks b\nrow 0\n"]:
            self.assertIs(caught(BadText, read_table, bad).thing, bad, repr(bad))
        for word in ("00", "01", "-0", "-01", "+1", "--1", "-", "1" * 16, "-" + "1" * 16, "0" * 15, "1.0", "1e3", "x", "1_0", "1-",
                     "\u0661", "0x1", "1,", "1\t", "\u00b2", "True", ""):
            bad = f"asks b\nrow {word}\n"
            self.assertIs(caught(BadText, read_table, bad).thing, bad, word)
        self.assertEqual(read_table("asks b\nrow -10\n").rows(), [{"b": -10}])


class TestHands(unittest.TestCase):
    def test_examples(self):
        self.assertEqual(write_hands(hands=HANDS), HANDS_TEXT)
        self.assertEqual(list(read_hands(text=HANDS_TEXT).items()), [("jo", ["b", "a.x"]), ("al", []), ("kay", ["jo"])])

    def test_drawn(self):
        rng = random.Random(109)
        names = ["a", "b", "c.d", "0", ".", "hand", "x" * 40]
        for _ in range(200):
            hands = {name: rng.sample(names, rng.randint(0, 4)) for name in rng.sample(names, rng.randint(1, 5))}
            text = write_hands(hands)
            self.assertEqual(text, "".join(" ".join(["hand", name, *hands[name]]) + "\n" for name in hands))
            self.assertEqual(list(read_hands(text).items()), list(hands.items()))
            links = [(one, other) for one in hands for other in rng.sample(names, 3) if one != other]
            text = write_links(links)
            self.assertEqual(text, "".join(f"link {one} {other}\n" for one, other in links))
            self.assertEqual(read_links(text), links)

    def test_bad_hands(self):
        for thing in any_objects():
            if not isinstance(thing, dict) or not thing:
                self.assertIsNone(caught(BadHands, write_hands, thing).name)
            if thing not in ([], (), ["a"], ("a", "b")) or isinstance(thing, dict):
                self.assertEqual(caught(BadHands, write_hands, {"jo": ["a"], "al": thing, "x": 3}).name, "al")
        for bad in (["a", "a"], ["A"], [""], ["a" * 41], "a", {"a": 1}, [["a"]], None):
            self.assertEqual(caught(BadHands, write_hands, {"jo": ["a"], "al": bad, "x": 3}).name, "al")
        for name in (1, None, True, "", "A", "a" * 41, ("a",), "a b"):
            self.assertEqual(caught(BadHands, write_hands, {"jo": ["a"], name: ["a"], "x": 3}).name, name)

    def test_bad_texts(self):
        for bad in [*bent_texts(HANDS_TEXT), "", "\n", "hand\n", "hand A\n", "hand a A\n", "hand a b b\n", "hand a\nhand a\n",
                    "hands a\n", "hand a", TEXT, LINKS_TEXT, "hand a  b\n", "hand " + "a" * 41 + "\n", "a b\n"]:
            self.assertIs(caught(BadText, read_hands, bad).thing, bad, repr(bad))


class TestLinks(unittest.TestCase):
    def test_examples(self):
        self.assertEqual(write_links(links=LINKS), LINKS_TEXT)
        told = read_links(text=LINKS_TEXT)
        self.assertEqual(told, [tuple(link) for link in LINKS])
        self.assertEqual((type(told), {type(link) for link in told}), (list, {tuple}))
        self.assertEqual((write_links([]), write_links(()), read_links("")), ("", "", []))

    def test_bad_links(self):
        for thing in any_objects():
            if not isinstance(thing, (list, tuple)):
                self.assertEqual(caught(BadLinks, write_links, thing).index, 0)
            if thing != ("a", "b") or isinstance(thing, list):
                self.assertEqual(caught(BadLinks, write_links, [("b", "a"), thing, 3]).index, 1)
        for bad in (("a", "a"), ("a",), ("a", "b", "c"), ("A", "b"), ("a", ""), ("a", 1), (None, "a"), "ab", ("b", "a"),
                    ["b", "a"], {"a": 1, "b": 2}, ("a", ["b"])):
            self.assertEqual(caught(BadLinks, write_links, [("b", "a"), bad, 3]).index, 1)

    def test_bad_texts(self):
        for bad in [*bent_texts(LINKS_TEXT), "\n", "link\n", "link a\n", "link a a\n", "link a b c\n", "link a B\n",
                    "link a b", "link a b\nlink a b\n", "links a b\n", TEXT, HANDS_TEXT, " ", "a"]:
            self.assertIs(caught(BadText, read_links, bad).thing, bad, repr(bad))


class TestAnyObjects(unittest.TestCase):
    def test_any_objects(self):
        for read in READS:
            for thing in any_objects():
                if thing != "" or read != read_links:
                    self.assertIs(caught(BadText, read, thing).thing, thing)


if __name__ == "__main__":
    unittest.main()
