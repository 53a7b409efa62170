"""Promises [110] to [113]."""

import random
import unittest

from tests.helpers import any_objects, caught, drawn_table
from twoworlds import cuts, engine, hands, talks, texts
from twoworlds.desks import Desk, replayed
from twoworlds.errors import (BadGroup, BadHands, BadKnown, BadLine, BadLinks, BadName, BadOrder, BadTelling, BadThing, NoHand,
                              NoName, NoQuestion, NoRow, TakenName, UnlikeQuestions)
from twoworlds.tables import Table

TABLE = Table([{"s": x ^ y, "a": x, "b": y, "c": z} for x in (0, 1) for y in (0, 1) for z in (0, 1)])
HANDS = {"jo": ["b"], "al": ("a", "c"), "kay": []}
LINKS = [("jo", "al"), ["al", "kay"], ("kay", "jo")]
OTHER = {"jo": ["zz"], "bo": []}
THINGS = {"t": TABLE, "h": HANDS, "l": LINKS, "o": OTHER, "none": []}
FORMS = {
    "only": "N T Q Q", "join": "N T T", "where": "N T Q K", "give": "N H Q Q", "say": "N T H L Q Q Q", "bar": "N L Q Q",
    "drop": "W", "told": "T Q Q", "least": "T Q", "secrets": "T Q", "knows": "T H Q Q", "reach": "T H L Q",
    "leak": "T H L Q Q", "cuts": "T H L Q Q", "rows": "T", "text": "W", "names": "",
}
GOOD = {"N": "new", "T": "t", "H": "h", "L": "l", "Q": "a", "K": "0", "W": "l"}


def new_desk():
    desk = Desk()
    for name, thing in THINGS.items():
        desk.keep(name, thing)
    return desk


def state_of(desk):
    """All that is kept, and what can be taken back and done again."""
    twin = desk.copy()
    out = [(twin.log(), [(name, texts_of(twin, name)) for name in twin.names()])]
    while twin.undo():
        out.append(twin.log())
    while twin.again():
        out.append(twin.log())
    return out


def texts_of(desk, name):
    return desk.told(f"text {name}")


class TestKeeping(unittest.TestCase):
    def test_things(self):
        desk, held, links = Desk(), {"jo": ["b"], "al": ["a"]}, [["jo", "al"]]
        self.assertIsNone(desk.keep(thing=held, name="h"))
        desk.keep("l", links)
        desk.keep("t", TABLE)
        held["jo"].append("c")
        held["x"] = []
        links[0][1] = "zz"
        links.append(("al", "jo"))
        desk.kept("h")["jo"].append("c")
        desk.kept("h").clear()
        desk.kept("l").clear()
        self.assertEqual(list(desk.kept(name="h").items()), [("jo", ["b"]), ("al", ["a"])])
        self.assertEqual((desk.kept("l"), type(desk.kept("l"))), ([("jo", "al")], list))
        self.assertTrue(desk.kept("t") == TABLE)
        self.assertEqual(desk.names(), ["h", "l", "t"])
        desk.names().clear()
        self.assertEqual(new_desk().names(), ["h", "l", "none", "o", "t"])
        self.assertEqual(new_desk().kept("h")["al"], ["a", "c"])
        desk.keep("x.y", {"a.b": ["c.d"]})
        self.assertEqual(desk.kept("x.y"), {"a.b": ["c.d"]})

    def test_errors(self):
        desk = new_desk()
        before = state_of(desk)
        for thing in any_objects():
            if thing not in ("a", "b", "zz", "abc") or not isinstance(thing, str):
                self.assertIs(caught(BadName, desk.keep, thing, 3).name, thing)
            self.assertIs(caught(NoName, desk.kept, thing).name, thing)
            self.assertEqual(caught(TakenName, desk.keep, "t", thing).name, "t")
            if isinstance(thing, Table) or thing in ([], (), {"a": ["a"]}):
                self.assertIsNone(caught(BadThing, Desk().keep, "x", thing))
            else:
                self.assertIs(caught(BadThing, desk.keep, "x", thing).thing, thing)
        for bad in ({"jo": ["a", "a"]}, {"jo": "a"}, {"Jo": []}, [("a", "a")], [("a", "b"), ("a", "b")], [("a", "B")], "link a b",
                    [("a", "b", "c")], [TABLE]):
            self.assertIs(caught(BadThing, desk.keep, "x", bad).thing, bad)
        for bad in ("", "A", "a" * 41, "a b", "a\n"):
            self.assertEqual(caught(BadName, desk.keep, bad, 3).name, bad)
        self.assertEqual(state_of(desk), before)


class TestDeeds(unittest.TestCase):
    def test_each(self):
        desk = new_desk()
        for line in ("only u t s b", "join v u u", "where w t a 1", "give g h kay c", "give g2 g kay a", "give g3 h al a",
                     "say i t h l jo al b", "bar m l al kay", "drop o"):
            self.assertEqual(desk.told(line), "done")
        self.assertTrue(desk.kept("u") == TABLE.only(["s", "b"]))
        self.assertTrue(desk.kept("v") == desk.kept("u") + desk.kept("u"))
        self.assertEqual(desk.kept("w").rows(), [row for row in TABLE.rows() if row["a"] == 1])
        self.assertEqual(desk.kept("g"), {"jo": ["b"], "al": ["a", "c"], "kay": ["c"]})
        self.assertEqual(desk.kept("g2"), {"jo": ["b"], "al": ["a", "c"], "kay": ["c", "a"]})
        self.assertEqual(desk.kept("g3"), {"jo": ["b"], "al": ["a", "c"], "kay": []})
        self.assertEqual(desk.kept("i"), {"jo": ["b"], "al": ["a", "c", "b"], "kay": []})
        self.assertEqual(desk.kept("m"), [("jo", "al"), ("kay", "jo")])
        self.assertEqual(caught(NoName, desk.kept, "o").name, "o")
        self.assertEqual(desk.kept("h"), {"jo": ["b"], "al": ["a", "c"], "kay": []})
        # What was dropped can be made again; what one knows without having it is put behind its others, too.
        self.assertEqual(desk.told("give o h jo zz"), "done")
        self.assertEqual(desk.kept("o")["jo"], ["b", "zz"])
        self.assertEqual(desk.told("say i2 t i l al kay s"), "done")
        self.assertEqual(desk.kept("i2"), {"jo": ["b"], "al": ["a", "c", "b"], "kay": ["s"]})
        self.assertEqual(desk.told("say i3 t i l jo al b"), "done")
        self.assertEqual(desk.kept("i3"), desk.kept("i"))
        self.assertEqual(desk.told(line="where w2 w a 1"), "done")
        self.assertEqual(desk.told("text u"), texts.write_table(TABLE.only(["s", "b"])))

    def test_errors_of_deeds(self):
        desk = new_desk()
        before = state_of(desk)
        for line, error in (("only u t s zz", BadKnown(1)), ("only u t s s", BadKnown(1)), ("where u t zz 0", NoQuestion("zz")),
                            ("where u t a 7", NoRow()), ("where u t a -999999999999999", NoRow()),
                            ("give u h bo a", NoHand("bo")), ("say u t o l jo bo a", BadHands("jo")),
                            ("say u t h l jo kay b", BadTelling(0)), ("say u t h l jo al a", BadTelling(0)),
                            ("say u t h l jo al zz", BadTelling(0)), ("say u t h l zz al b", BadTelling(0)),
                            ("bar u l al jo", BadLinks(0)), ("bar u none al jo", BadLinks(0)),
                            ("told t zz a zz", BadKnown(1)), ("told t zz a", NoQuestion("zz")), ("told t s a a", BadKnown(1)),
                            ("least t zz", NoQuestion("zz")), ("secrets t zz", NoQuestion("zz")),
                            ("knows t o zz zz", BadHands("jo")), ("knows t h zz jo zz", BadGroup(1)),
                            ("knows t h zz jo", NoQuestion("zz")), ("knows t h s jo jo", BadGroup(1)),
                            ("reach t o l zz", BadHands("jo")), ("reach t h l zz", NoHand("zz")),
                            ("leak t h l zz zz", NoHand("zz")), ("leak t h l jo zz", NoQuestion("zz")),
                            ("leak t o l zz zz", BadHands("jo")), ("cuts t h l zz zz", NoHand("zz")),
                            ("cuts t h l jo zz", NoQuestion("zz")), ("cuts t o l zz zz", BadHands("jo"))):
            found = caught(type(error), desk.told, line)
            self.assertIsNotNone(found, line)
            self.assertEqual(vars(found), vars(error), line)
        self.assertEqual(state_of(desk), before)
        desk.keep("few", {"jo": [], "al": []})
        desk.told("only one t a b")
        self.assertEqual(caught(UnlikeQuestions, desk.told, "join u t one").args, UnlikeQuestions().args)
        for line in ("reach t few l zz", "leak t few l zz zz", "cuts t few l zz zz", "say u t few l jo al b"):
            self.assertEqual(caught(BadLinks, desk.told, line).index, 1)


class TestAsking(unittest.TestCase):
    def test_examples(self):
        desk = new_desk()
        before = state_of(desk)
        for line, told in (
                ("told t s a b", "yes"), ("told t s a", "no"), ("told t s", "no"), ("told t a a", "yes"),
                ("least t s", "a b"), ("least t c", "none"), ("secrets t s", "a c, b c"), ("secrets t c", "s a b"),
                ("knows t h s al jo", "yes"), ("knows t h s jo", "no"), ("knows t h s", "no"), ("reach t h l kay", "s a b c"),
                ("reach t h none kay", "-"), ("reach t h none al", "a c"), ("leak t h l kay s", "2"), ("leak t h l jo b", "0"),
                ("leak t h none jo s", "never"), ("cuts t h l kay s", "jo al, al kay"), ("cuts t h l jo b", "none"),
                ("cuts t h none jo a", "-"), ("rows t", "8"), ("names", "h l none o t"), ("text none", ""),
                ("text l", "link jo al\nlink al kay\nlink kay jo\n"), ("text h", "hand jo b\nhand al a c\nhand kay\n"),
                ("text t", texts.write_table(TABLE))):
            self.assertEqual(desk.told(line), told, line)
        self.assertEqual(state_of(desk), before)
        self.assertEqual(Desk().told("names"), "")
        desk.keep("flat", Table([{"a": 5, "b": 1}, {"a": 5, "b": 2}]))
        self.assertEqual((desk.told("least flat a"), desk.told("secrets flat a")), ("-", "none"))
        self.assertEqual((desk.told("least flat b"), desk.told("secrets flat b")), ("none", "a"))
        desk.keep("one", Table([{"a": 5, "b": 1}, {"a": 6, "b": 1}]))
        self.assertEqual(desk.told("secrets one a"), "b")
        self.assertEqual(desk.told("told one b"), "yes")
        desk.told("only alone one a")
        self.assertEqual((desk.told("least alone a"), desk.told("secrets alone a")), ("none", "-"))
        desk.keep("ring", [("jo", "al"), ("jo", "kay"), ("al", "kay")])
        self.assertEqual(desk.told("cuts t h ring kay b"), "jo al jo kay, jo kay al kay")

    def test_drawn(self):
        rng = random.Random(111)
        for _ in range(80):
            table = drawn_table(rng)
            names = table.questions()
            held = {name: rng.sample(names, rng.randint(0, min(2, len(names)))) for name in ("jo", "al", "kay")}
            links = rng.sample([(one, other) for one in held for other in held if one != other], rng.randint(0, 5))
            desk, asked, name = Desk(), rng.choice(names), rng.choice(list(held))
            desk.keep("t", table)
            desk.keep("h", held)
            desk.keep("l", links)
            known, group = rng.sample(names, rng.randint(0, len(names))), rng.sample(list(held), rng.randint(0, 3))

            def row(files):
                return ", ".join(" ".join(file) or "-" for file in files) or "none"
            self.assertEqual(desk.told(" ".join(["told t", asked, *known])), ("no", "yes")[table.is_told(known, asked)])
            self.assertEqual(desk.told(f"least t {asked}"), row(engine.least_files(table, asked)))
            self.assertEqual(desk.told(f"secrets t {asked}"), row(engine.secrets(table, asked)))
            self.assertEqual(desk.told(" ".join(["knows t h", asked, *group])),
                             ("no", "yes")[hands.knows(table, held, group, asked)])
            self.assertEqual(desk.told(f"reach t h l {name}"), row([talks.all_talked(table, held, links)[name]]))
            leak = talks.leak(table, held, links, name, asked)
            self.assertEqual(desk.told(f"leak t h l {name} {asked}"), "never" if leak is None else str(len(leak)))
            self.assertEqual(desk.told(f"cuts t h l {name} {asked}"), row(
                [one for link in cut for one in link] for cut in cuts.cuts(table, held, links, name, asked)))
            self.assertEqual(desk.told("rows t"), str(len(table)))
            self.assertEqual(desk.told("text h"), texts.write_hands(held))


class TestOrders(unittest.TestCase):
    def good_line(self, word):
        return " ".join([word, *[GOOD[sort] for sort in FORMS[word].split()]])

    def test_bad_orders(self):
        desk = new_desk()
        before = state_of(desk)
        bad = [*any_objects(), " ", "\n", "keep t table", "only", "undo", "log", "names names", "rows", "NAMES", "names ", " names",
               "rows  t", "rows t ", "rows t\n", "rows\tt", "rows t t", "drop", "drop t t", "text", "told", "told t"]
        for word in FORMS:
            line, sorts = self.good_line(word), FORMS[word].split()
            words = line.split(" ")
            more = ["only", "told", "knows"]
            bad += [line + " ", " " + line, line.replace(" ", "  ", 1) if sorts else line + "\n", line + "\n", word.upper()]
            bad += [line + " a"] if word not in more else [line + " A", line + " a ", line + " " + "a" * 41]
            bad += [" ".join(words[:many]) for many in range(1, len(words) - (word in more))]
            for at, sort in enumerate(sorts):
                for wrong in {"N": ["A", "a" * 41, "a,b", "-"], "Q": ["A", "a" * 41, "_", "-1"],
                              "K": ["00", "-0", "x", "1" * 16, "+1", "1.0", "-", "01", "a"]}.get(sort, []):
                    bad.append(" ".join([*words[:at + 1], wrong, *words[at + 2:]]))
                bad.append(" ".join([*words[:at + 1], "", *words[at + 2:]]))
        for line in bad:
            self.assertIs(caught(BadOrder, desk.told, line).line, line, repr(line))
        self.assertEqual(state_of(desk), before)

    def test_things(self):
        desk = new_desk()
        before = state_of(desk)
        kinds = {"T": "t", "H": "h", "L": "l"}
        for word, form in FORMS.items():
            words, sorts = self.good_line(word).split(" "), form.split()
            places = [at for at, sort in enumerate(sorts, 1) if sort in "THLW"]
            for at in places:
                for wrong in ("zz", "A", "\u00e9", "a" * 50):
                    line = " ".join([*words[:at], wrong, *words[at + 1:]])
                    self.assertEqual(caught(NoName, desk.told, line).name, wrong)
                for sort, name in kinds.items():
                    if sorts[at - 1] not in (sort, "W"):
                        line = [*words[:at], name, *words[at + 1:]]
                        if sorts[0] == "N":
                            line[1] = "o"
                        self.assertEqual(caught(BadThing, desk.told, " ".join(line)).thing, name)
                        # What is not kept is found ahead of what is of another kind.
                        others = [other for other in places if other != at]
                        if others:
                            line[others[-1]] = "zz"
                            self.assertEqual(caught(NoName, desk.told, " ".join(line)).name, "zz")
            if sorts and sorts[0] == "N":
                self.assertEqual(caught(TakenName, desk.told, " ".join([words[0], "o", *words[2:]])).name, "o")
                self.assertEqual(caught(TakenName, desk.told, " ".join([words[0], words[2], *words[2:]])).name, words[2])
        self.assertEqual(caught(NoName, desk.told, "reach x y z a").name, "x")
        self.assertEqual(caught(NoName, desk.told, "reach h y z a").name, "y")
        self.assertEqual(caught(BadThing, desk.told, "reach t l h a").thing, "l")
        self.assertEqual(caught(TakenName, desk.told, "only o t zz").name, "o")
        self.assertEqual(state_of(desk), before)


class TestUndo(unittest.TestCase):
    LINES = ("only u t s b", "give g h kay c", "bar m l al kay", "drop o", "where w t a 1", "drop u")

    def test_undo_and_again(self):
        desk = Desk()
        self.assertEqual((desk.undo(), desk.again(), desk.log()), (False, False, []))
        desk.keep("t", TABLE)
        desk.keep("h", HANDS)
        self.assertIs(desk.undo(), True)
        self.assertEqual((desk.names(), desk.log()), (["t"], ["keep t table"]))
        self.assertEqual(desk.told("rows t"), "8")
        self.assertIsNotNone(caught(NoName, desk.told, "rows x"))
        self.assertIsNotNone(caught(TakenName, desk.keep, "t", TABLE))
        self.assertIsNotNone(caught(NoQuestion, desk.told, "where u t zz 0"))
        # Lines that ask, and what raises, are no deeds: what was taken back can still be done again.
        self.assertIs(desk.again(), True)
        self.assertEqual(desk.names(), ["h", "t"])
        self.assertIs(desk.again(), False)
        desk.undo()
        desk.told("only u t a")
        self.assertIs(desk.again(), False)
        self.assertEqual(desk.log(), ["keep t table", "only u t a"])
        desk.log().clear()
        desk.undo()
        desk.keep("u", LINKS)
        self.assertEqual((desk.again(), desk.log()), (False, ["keep t table", "keep u links"]))
        self.assertEqual([desk.undo(), desk.undo(), desk.undo(), desk.names()], [True, True, False, []])

    def test_all_the_way(self):
        desk = new_desk()
        states = [[(name, texts_of(desk, name)) for name in desk.names()]]
        for line in self.LINES:
            desk.told(line)
            states.append([(name, texts_of(desk, name)) for name in desk.names()])
        self.assertEqual(desk.log(), ["keep t table", "keep h hands", "keep l links", "keep o hands", "keep none links",
                                      *self.LINES])
        for state in states[-2::-1]:
            self.assertIs(desk.undo(), True)
            self.assertEqual([(name, texts_of(desk, name)) for name in desk.names()], state)
        for state in states[1:]:
            self.assertIs(desk.again(), True)
            self.assertEqual([(name, texts_of(desk, name)) for name in desk.names()], state)
        self.assertIs(desk.again(), False)

    def test_copy(self):
        desk = new_desk()
        desk.told("drop o")
        desk.told("drop none")
        desk.undo()
        twin = desk.copy()
        self.assertEqual(state_of(twin), state_of(desk))
        self.assertTrue(twin.again())
        twin.told("only u t a")
        self.assertEqual((desk.names(), twin.names()), (["h", "l", "none", "t"], ["h", "l", "t", "u"]))
        self.assertTrue(desk.again())
        self.assertEqual(desk.names(), ["h", "l", "t"])
        self.assertEqual(twin.names(), ["h", "l", "t", "u"])

    def test_trial(self):
        desk = new_desk()
        desk.told("drop o")
        desk.undo()
        before = state_of(desk)

        def work(one):
            self.assertIs(one, desk)
            one.told("only u t a")
            one.keep("x", LINKS)
            one.undo()
            self.assertEqual(one.trial(lambda two: [two.undo(), two.undo(), two.names()])[2], ["h", "l", "o", "t"])
            return one.names()
        self.assertEqual(desk.trial(work=work), ["h", "l", "none", "o", "t", "u"])
        self.assertEqual(state_of(desk), before)

        def fail(one):
            one.undo()
            one.told("rows zz")
        self.assertEqual(caught(NoName, desk.trial, fail).name, "zz")
        self.assertEqual(state_of(desk), before)
        with self.assertRaises(ZeroDivisionError):
            desk.trial(lambda one: one.undo() and 1 // 0)
        self.assertEqual(state_of(desk), before)


class TestDrawn(unittest.TestCase):
    """Drawn deeds, and what takes them back, beside a plain list of what was kept behind each of them."""

    def line(self, rng, desk):
        names, new = desk.names() or ["zz"], rng.choice("uvwxyz")
        word = rng.choice(list(FORMS))
        words = {"N": lambda: new, "Q": lambda: rng.choice(["s", "a", "b", "jo", "al", "kay"]), "K": lambda: rng.choice("01")}
        return " ".join([word, *[words.get(sort, lambda: rng.choice(names))() for sort in FORMS[word].split()]])

    def test_drawn(self):
        rng = random.Random(112)
        made = 0
        for _ in range(60):
            desk, past, future = Desk(), [[]], []
            for _ in range(30):
                before = state_of(desk)
                draw = rng.random()
                if draw < 0.15:
                    self.assertIs(desk.undo(), len(past) > 1)
                    if len(past) > 1:
                        future.append(past.pop())
                elif draw < 0.3:
                    self.assertIs(desk.again(), len(future) > 0)
                    if future:
                        past.append(future.pop())
                else:
                    name = rng.choice(list(THINGS))
                    line = self.line(rng, desk) if draw < 0.8 else None
                    try:
                        told = desk.keep(name, THINGS[name]) if line is None else desk.told(line)
                    except ValueError:
                        self.assertEqual(state_of(desk), before)
                        continue
                    if line is None or told == "done" and line.split(" ")[0] not in ("text", "names"):
                        made += 1
                        kind = "table" if name == "t" else "hands" if name in "ho" else "links"
                        future = []
                        past.append([*past[-1], f"keep {name} {kind}" if line is None else line])
                    else:
                        self.assertEqual(state_of(desk), before)
                self.assertEqual(desk.log(), past[-1])
                twin = replayed(desk.log(), THINGS)
                self.assertEqual([(name, texts_of(twin, name)) for name in twin.names()],
                                 [(name, texts_of(desk, name)) for name in desk.names()])
        self.assertGreater(made, 300)


class TestReplayed(unittest.TestCase):
    def test_replayed(self):
        desk = new_desk()
        for line in TestUndo.LINES:
            desk.told(line)
        twin = replayed(things=dict(THINGS, more=3), lines=tuple(desk.log()))
        self.assertEqual(state_of(twin), state_of(desk))
        while twin.undo():
            desk.undo()
            self.assertEqual([(name, texts_of(twin, name)) for name in twin.names()],
                             [(name, texts_of(desk, name)) for name in desk.names()])
        self.assertEqual(replayed([], {}).log(), [])
        things = {"t": TABLE, "h": {"jo": ["a"]}}
        desk = replayed(["keep h hands", "drop h", "keep h hands", "give g h jo b"], things)
        things["h"]["jo"].append("c")
        self.assertEqual((desk.kept("h"), desk.kept("g")), ({"jo": ["a"]}, {"jo": ["a", "b"]}))

    def test_bad_lines(self):
        good = ["keep t table", "keep h hands", "keep l links", "only u t a"]
        for thing in any_objects():
            if not isinstance(thing, (list, tuple)):
                self.assertEqual(caught(BadLine, replayed, thing, THINGS).index, 0)
            if not isinstance(thing, dict):
                self.assertEqual(caught(BadLine, replayed, good, thing).index, 0)
                self.assertEqual(caught(BadLine, replayed, [], thing).index, 0)
            self.assertEqual(caught(BadLine, replayed, [*good, thing, 3], THINGS).index, 4)
            if not isinstance(thing, Table):
                self.assertEqual(caught(BadLine, replayed, good, {**THINGS, "t": thing}).index, 0)
        for line in ("rows t", "names", "text t", "told t a", "least t a", "keep t table", "keep zz table", "keep none hands",
                     "keep o links", "keep o table", "keep o", "keep o hands x", "keep o HANDS", "keep  o hands", "keep o hands ",
                     "only u t a", "only v t zz", "only v t", "only v zz a", "only v h a", "drop zz", "drop", "", " ", "undo",
                     "keep o hands\n", "only v t a\n", "where v t a 9", "say v t h l jo kay b", "bar v l a b", "keep A table"):
            self.assertEqual(caught(BadLine, replayed, [*good, line, 3], THINGS).index, 4, line)
        self.assertEqual(caught(BadLine, replayed, good, {"t": TABLE, "l": LINKS}).index, 1)
        self.assertEqual(caught(BadLine, replayed, good, {**THINGS, "l": [("a", "a")]}).index, 2)
        self.assertEqual(caught(BadLine, replayed, good[3:], THINGS).index, 0)
        self.assertEqual(replayed(good, {**THINGS, "o": 5, 1: 2, None: 3}).names(), ["h", "l", "t", "u"])


if __name__ == "__main__":
    unittest.main()
