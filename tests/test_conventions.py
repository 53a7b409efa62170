"""Promises [3] and [4] across the package: what is passed stays, and calls by names tell the same."""

import copy
import inspect
import unittest

from tests.helpers import caught
from twoworlds import clashes, coders, cuts, engine, firsts, floors, forests, hands, heights, ladders, links, nets
from twoworlds import orders, resets, rings, rows, shares, shown, sums, talks, texts, trees
from twoworlds.boxes import Box
from twoworlds.bundles import Bundles
from twoworlds.codes import Codes
from twoworlds.desks import Desk
from twoworlds.errors import NoQuestion, WorldError
from twoworlds.files import File
from twoworlds.machines import Machines
from twoworlds.mixes import Mix
from twoworlds.nets import Net
from twoworlds.orders import Seats
from twoworlds.pieces import Pieces
from twoworlds.shares import Shares
from twoworlds.sums import Sums
from twoworlds.tables import Table
from twoworlds.views import View

TABLE = Table([{"a": x, "b": y, "c": x, "s": x ^ y} for x in (0, 1) for y in (0, 1)])
SUMS = Sums(["x", "y"], {"a": ({"x": 1, "y": 1}, 0), "b": ({"x": 1, "y": -1}, 0), "c": ({"x": 2}, 4), "s": ({"x": 1}, 0)})
SHARES = Shares(5, ["x", "y"], {"a": {"x": 1, "y": 1}, "b": {"x": 1, "y": 4}, "c": {"x": 2}, "s": {"x": 1}})
VIEW = View(TABLE, {"a": "a", "b": "b", "c": "c", "s": "s"})
NET = Net({"a": ("x", "y"), "b": ("x", "y"), "c": ("y", "y"), "s": ("y", "x")})
PIECES = Pieces("ab", ["a", "aa", "b", "ab"])
RINGS = View(PIECES, {"a": "a", "b": "aa", "c": "b", "s": "ab"})
MOVES = {"p": {"x": ("u", "q"), "y": ("v", "p")}, "q": {"x": ("u", "r"), "y": ("u", "p")},
         "r": {"x": ("u", "r"), "y": ("v", "q")}}
BOX = Box(MOVES, {"a": ["y", "y"], "b": (["x"], {"p": 1, "q": 2, "r": 3}), "c": ["x"],
                  "s": ([], {"p": 5, "q": 6, "r": 7})})
SEATS = Seats({"al": (0, 1), "jo": (1, 2), "kay": (0, 2)})
ROWS = View(SEATS, {"a": "al", "b": "jo", "c": "at.0", "s": "kay"})
MUTE = {"x": {"a": ("x", "0"), "b": ("x", "0")}}
LOUD = {"x": {"a": ("x", "0"), "b": ("y", "1")}, "y": {"a": ("x", "1"), "b": ("y", "0")}}
PARITY = {"e": (0, {"a": "o", "b": "e"}), "o": (1, {"a": "e", "b": "o"})}
ENDING = {"n": (0, {"a": "y", "b": "n"}), "y": (1, {"a": "y", "b": "n"})}
CODES = Codes("ab", {"a": MUTE, "b": LOUD}, {"c": PARITY, "s": ENDING})
FLAT = {"x": (3, {"a": "x", "b": "x"})}
MACHINES = Machines("ab", {"a": ("x", FLAT), "b": ("e", PARITY), "c": ("x", FLAT), "s": ("n", ENDING)})
MIX = Mix({"t": TABLE, "m": MACHINES})
FIELDS = {"table": TABLE, "sums": SUMS, "shares": SHARES, "view": VIEW, "net": NET, "rings": RINGS, "box": BOX,
          "rows": ROWS, "codes": CODES, "machines": MACHINES, "mix": View(MIX, {"a": "m.a", "b": "m.b", "c": "t.c", "s": "m.s"}),
          "bundles": Bundles(TABLE, {"a": ["a"], "b": ("b",), "c": ["c", "a"], "s": ["s", "b"]})}
KINDS = (Table, View, Sums, Shares, Net, Pieces, Box, Seats, Codes, Machines, Mix, Bundles, Desk)
HANDS = {"jo": ["a"], "al": ["b", "c"], "kay": []}


def field_calls(field):
    """Calls of the methods of a field, as pairs of a function and its arguments by position."""
    known, world = ["b", "a"], field.home()
    plan = field.plan(known, "s")
    return [(field.questions, []), (field.home, []), (field.answers, [world]), (field.is_told, [known, "s"]),
            (field.is_told, [["c"], "b"]), (field.plan, [known, "s"]), (field.is_plan, [known, "s", plan]),
            (field.found, [known, "s", plan, field.answers(world)]), (field.apart, [["c"], "b"]),
            (field.apart, [known, "s"]), (field.are_apart, [["c"], "b", field.apart(["c"], "b")]),
            (engine.told_by, [field, known]), (engine.is_closed, [field, known]),
            (engine.needless, [field, ["c", "a", "b"], "s"]), (engine.thinned, [field, ["c", "a", "b"], "s"]),
            *[(work, [field, "s", of]) for of in (None, ["s", "b", "a"], [])
              for work in (engine.least_files, engine.secrets, engine.needed, engine.idle)],
            (hands.knows, [field, HANDS, ["al", "jo"], "s"]), (hands.least_groups, [field, HANDS, "s"]),
            (hands.outsiders, [field, HANDS, "s"]), (hands.may_tell, [field, HANDS, "al", "s"]),
            (hands.is_safe, [field, HANDS, 1, "s"])]


def other_calls():
    """The same for what belongs to one kind of field."""
    tree, held = trees.fewest(TABLE, "s")[1], trees.hold(TABLE, "s", 2)
    answers, bad = {"a": 5, "b": 3}, {"a": 5, "b": 2}
    return [(TABLE.rows, []), (TABLE.left, [{"a": 1}]), (TABLE.may_be, [{"a": 1}, "s"]), (TABLE.only, [["s", "a"]]),
            (VIEW.names, []), (SUMS.unknowns, []), (SUMS.row, ["b"]), (SHARES.unknowns, []), (SHARES.row, ["b"]),
            (trees.is_tree, [TABLE, "s", tree, ["a", "b"]]), (trees.depth_of, [TABLE, "s", tree, None]),
            (trees.fewest, [TABLE, "s", ["b", "a"]]), (trees.mean_fewest, [TABLE, [1, 2, 3, 4], "s", None]),
            (trees.hold, [TABLE, "s", 2, ["a", "c", "b"]]), (trees.is_hold, [TABLE, "s", 2, held, None]),
            (sums.step, [SUMS, ["a"], "b"]), (sums.parted, [SUMS, ["a"], "b", 6]), (sums.helps, [SUMS, ["a"], "b"]),
            (clashes.world_of, [SUMS, answers]), (clashes.clash, [SUMS, bad]),
            (clashes.is_clash, [SUMS, bad, clashes.clash(SUMS, bad)]), (clashes.may_be, [SUMS, answers, "c"]),
            (ladders.ladder, [SUMS, ["c", "a"]]), (shares.world_count, [SHARES, {"a": 1}]),
            (shares.spread, [SHARES, {"a": 1}, "s"]), (shares.handed_out, [5, ["jo", "al"], 2]), (Table, [TABLE.rows()]),
            (View, [TABLE, {"x": "a"}]), (Sums, [["x"], {"a": ({"x": 1}, 0)}]), (Shares, [3, ["x"], {"a": {"x": 1}}])]


def net_calls():
    """The same for nets."""
    world, prices, amounts = {"s": 3, "c": 1, "a": 2, "b": 1}, {"s": 3, "c": 1, "a": 2, "b": 0}, {"s": 3, "a": -3}
    given, hidden = heights.heights(NET, ["b", "c"], amounts), forests.hiding(NET, ["b", "a"], "s")
    side = floors.most_at(NET, ["s"], world, "a")[2]
    return [(Net, [NET.arcs()]), (NET.arcs, []), (NET.nodes, []), (NET.live, []),
            (nets.table_net, [["r", "q"], ["k"]]), (heights.heights, [NET, ["b", "c"], {"s": 3, "a": -3}]),
            (heights.heights, [NET, ["b", "c"], amounts]), (heights.are_heights, [NET, ["b", "c"], amounts, given]),
            (heights.sum_found, [NET, ["b"], amounts, {"x": 0, "y": -3}, {"b": 1}]),
            (heights.sum_apart, [NET, ["b"], {"c": 1}]), (heights.sum_apart, [NET, ["b", "c"], amounts]),
            (forests.cheapest, [NET, prices]), (forests.is_cheapest, [NET, prices, ["c", "b", "a"]]),
            (forests.hiding, [NET, ["b", "a"], "s"]), (forests.hiding, [NET, ["b"], "s"]),
            (forests.is_hiding, [NET, ["b", "a"], "s", hidden]), (floors.least_at, [NET, ["s", "b"], world, "a"]),
            (floors.least_at, [NET, ["b"], world, "s"]), (floors.most_at, [NET, ["b"], world, "s"]),
            (floors.most_at, [NET, ["s"], world, "a"]), (floors.least_at, [NET, ["s"], world, "s"]),
            (floors.bound_of, [NET, ["s"], {"s": 3}, "a", side, False]),
            (floors.bound_of, [NET, ["b"], {"b": 3}, "s", ["y"], True])]


def ring_calls():
    """The same for rings."""
    counts = {"aa": 1, "ab": 2, "ba": 2, "bb": 1}
    return [(rings.numbers, ["ab", "aababb", 2]), (rings.is_of_ring, ["ab", 2, counts]),
            (rings.ring_of, ["ab", 2, counts]), (rings.many_rings, ["ab", 2, counts]),
            (rings.first_reading, ["ab", "bab"]), (rings.all_rings, ["ab", 2, counts]),
            (rings.exchanges, ["ab", "aababb", 2]), (Pieces, ["ab", ["a", "bb"]]), (PIECES.letters, []),
            (PIECES.questions, []), (PIECES.plan, [["aa", "a"], "ab"]), (PIECES.apart, [["a", "b"], "ab"]),
            (PIECES.found, [["a", "b"], "a", {"a": (1, 1)}, {"a": 3, "b": 1}]),
            (shown.shown_numbers, ["ab", 2, counts, "abab"]), (shown.settled_by, ["ab", 2, counts])]


def box_calls():
    """The same for boxes."""
    marks = {"r": 3, "q": 2, "p": 1}
    one = Box({"p": {"x": ("u", "q")}, "q": {"x": ("u", "p")}}, {"a": []})
    kept, hard = resets.keep(one), firsts.hard_list(one, {"p": 1, "q": 2})
    return [(Box, [MOVES, {"a": ["x", "y"], "b": (["x"], marks)}]), (BOX.states, []), (BOX.letters, []),
            (BOX.move, ["q", "x"]), (BOX.out, ["q", ["x", "y"]]), (BOX.end, ["q", ["x", "y"]]),
            (resets.parting_row, [BOX, "p", "q"]), (resets.parting_row, [one, "p", "q"]), (resets.alike_states, [one]),
            (resets.least_moves, [BOX]), (resets.reset_row, [BOX]), (resets.keep, [one]), (resets.is_keep, [one, kept]),
            (resets.now_row, [BOX]), (resets.blind_list, [one]), (resets.is_blind_list, [one, kept]),
            (firsts.first_tree, [BOX, marks]), (firsts.is_first_tree, [BOX, marks, firsts.first_tree(BOX, marks)]),
            (firsts.first_row, [BOX, marks]), (firsts.hard_list, [one, {"p": 1, "q": 2}]),
            (firsts.is_hard_list, [one, {"p": 1, "q": 2}, hard]), (links.beside_moves, [BOX, BOX]),
            (links.linked_moves, [BOX, Box({"s": {"u": ("k", "s"), "v": ("l", "s")}}, {"a": []})])]


def row_calls():
    """The same for rows of people."""
    row, other = ["al", "jo", "kay"], ["kay", "al", "jo"]
    return [(Seats, [{"al": (0, 1), "jo": [0, 1]}, ["jo", "al"], [1]]), (SEATS.windows, []), (SEATS.questions, []),
            (SEATS.plan, [["al"], "at.0"]), (SEATS.apart, [["at.0"], "jo"]), (SEATS.answers, [other]),
            (SEATS.are_apart, [[], "jo", (row, other)]), (orders.room, [SEATS, 0, 1]), (orders.swaps, [SEATS]),
            (orders.is_swap, [SEATS, ("jo", "kay", 1, 2)]), (rows.way, [SEATS, row, other]),
            (rows.is_way, [SEATS, row, other, [("jo", "kay"), ("al", "kay")]]), (rows.can_be, [SEATS, {"al": 0}, "at.2"]),
            (rows.row_with, [SEATS, {"al": 0, "at.2": "jo"}]), (rows.stands, [SEATS, "jo"]),
            (rows.earliest, [SEATS, ["kay", "jo"]]), (rows.orders, [SEATS, "al", "kay"]), (rows.tied, [SEATS]),
            (rows.many_rows, [SEATS, {"al": 0}]), (rows.number_of, [SEATS, other]), (rows.row_at, [SEATS, 1])]


def word_calls():
    """The same for codes and machines."""
    reader, answers = CODES.least_reader(["b", "c"], "s"), {"b": "01", "c": 1}
    lasts = {"b": "010"}
    return [(coders.is_code, ["ab", LOUD]), (coders.is_class, ["ab", PARITY]), (CODES.letters, []), (CODES.code, ["b"]),
            (Codes, ["ab", {"a": MUTE, "b": LOUD}, {"c": PARITY}]), (CODES.class_of, ["c"]),
            (CODES.words, [["b", "c"], {"b": "01", "c": 1}, 3]), (CODES.shortest, [["b", "c"], answers]),
            (CODES.how_many, [["b", "c"], answers]), (CODES.least_reader, [["b", "c"], "s"]),
            (CODES.is_reader, [["b", "c"], "s", reader]), (CODES.read, [["b", "c"], "s", reader, answers]),
            (Machines, ["ab", {"b": ("e", PARITY)}]), (MACHINES.letters, []), (MACHINES.reader, ["b"]),
            (MACHINES.least_apart, [["c", "a"], "b"]), (MACHINES.many_words, [["b"], lasts]),
            (MACHINES.nth_word, [["b"], lasts, 0]), (MACHINES.may_say, [["b"], lasts, "s"]),
            (MACHINES.lag, [["b"], "s"]), (MACHINES.late_words, [["a"], "b", 2]), (MACHINES.late_plan, [["b"], "s", 2]),
            (MACHINES.is_late_plan, [["b"], "s", 2, MACHINES.late_plan(["b"], "s", 2)]),
            (MACHINES.unlike_word, ["b", "s"]), (MACHINES.least_reader, ["s"]), (MACHINES.only, [["s", "b"]])]


def talk_calls():
    """The same for what stands above all fields, and for texts and desks."""
    talk, desk = [("jo", "al"), ["al", "kay"]], Desk()
    desk.keep("t", TABLE)
    desk.keep("h", HANDS)
    desk.keep("l", talk)
    tellings, silent = [("jo", "al", "a"), ["al", "kay", "s"]], [("al", "jo")]
    guard = talks.shield(TABLE, HANDS, silent, "kay", "s")
    return [(Mix, [{"t": TABLE, "m": MACHINES}]), (MIX.parts, []), (MIX.questions, []), (MIX.home, []),
            (MIX.answers, [{"m": "ab", "t": TABLE.home()}]), (MIX.apart, [["t.a"], "m.b"]),
            (Bundles, [TABLE, {"x": ["b", "a"]}]), (FIELDS["bundles"].bundles, []), (FIELDS["bundles"].answers, [TABLE.home()]),
            (talks.talked, [TABLE, HANDS, talk, tellings]), (talks.all_talked, [TABLE, HANDS, talk]),
            (talks.leak, [TABLE, HANDS, talk, "kay", "s"]), (talks.is_leak, [TABLE, HANDS, talk, "kay", "s", tellings]),
            (talks.shield, [TABLE, HANDS, silent, "kay", "s"]),
            (talks.is_shield, [TABLE, HANDS, silent, "kay", "s", guard]), (cuts.ways, [TABLE, HANDS, talk, "kay", "s"]),
            (cuts.cuts, [TABLE, HANDS, talk, "kay", "s"]), (cuts.lightest_cut, [TABLE, HANDS, talk, [3, 2], "kay", "s"]),
            (texts.write_table, [TABLE]), (texts.read_table, [texts.write_table(TABLE)]), (texts.write_hands, [HANDS]),
            (texts.read_hands, [texts.write_hands(HANDS)]), (texts.write_links, [talk]),
            (texts.read_links, [texts.write_links(talk)]), (desk.kept, ["h"]), (desk.kept, ["l"]), (desk.kept, ["t"]),
            (desk.names, []), (desk.told, ["text t"]), (desk.log, [])]


def all_calls():
    return [call for field in FIELDS.values() for call in field_calls(field)] + [
        *other_calls(), *net_calls(), *ring_calls(), *box_calls(), *row_calls(), *word_calls(), *talk_calls()]


def swapped(thing, top=True):
    """Lists where tuples stand, and the other way round, also within others; keys stay as they are."""
    if isinstance(thing, list):
        return tuple(swapped(part, False) for part in thing)
    if isinstance(thing, tuple):
        return [swapped(part, False) for part in thing]
    if isinstance(thing, dict):
        return {key: swapped(part, False) for key, part in thing.items()}
    return thing


def kinds(thing):
    """The kinds of a thing, keys of dicts in their order."""
    if isinstance(thing, (list, tuple)):
        return type(thing).__name__, [kinds(part) for part in thing]
    if isinstance(thing, dict):
        return "dict", [(key, kinds(part)) for key, part in thing.items()]
    if isinstance(thing, KINDS):
        return type(thing).__name__
    return type(thing).__name__, thing


def lists_in(thing):
    """All lists and dicts within a thing."""
    if isinstance(thing, (list, tuple)):
        return ([thing] if isinstance(thing, list) else []) + [one for part in thing for one in lists_in(part)]
    if isinstance(thing, dict):
        return [thing] + [one for part in thing.values() for one in lists_in(part)]
    return []


class TestAbove(unittest.TestCase):
    def test_views_files_and_hands(self):
        names = {"s2": "s", "a2": "a", "b2": "b", "c2": "c", "b3": "b"}
        for field in FIELDS.values():
            view, file = View(field, names), File(field)
            plan = view.plan(["b2", "a2"], "s2")
            self.assertTrue(field.is_plan(["b", "a"], "s", plan))
            answers = view.answers(field.home())
            self.assertEqual(answers["s2"], field.answers(field.home())["s"])
            self.assertEqual(view.found(["b2", "a2"], "s2", plan, answers), answers["s2"])
            self.assertTrue(view.are_apart(["c2"], "b2", field.apart(["c"], "b")))
            self.assertIs(view.is_told(["b3"], "b2"), True)
            self.assertEqual(engine.least_files(view, "s2", ["a2", "b2"]), [
                [f"{name}2" for name in found] for found in engine.least_files(field, "s", ["a", "b"])])
            file.learn("a")
            file.learn("b")
            self.assertEqual(file.told(), engine.told_by(field, ["a", "b"]))
            self.assertIs(file.tells("s"), True)
            file.forget("a")
            self.assertIs(file.tells("s"), field.is_told(["b"], "s"))
            self.assertIs(hands.knows(field, HANDS, ["jo", "al"], "s"), True)
            self.assertEqual(hands.least_groups(field, {"x": ["b", "a"], "y": []}, "s")[0],
                             [] if field.is_told([], "s") else ["x"])


class TestCalls(unittest.TestCase):
    def test_the_same_by_names_and_with_lists_for_tuples(self):
        for work, rest in all_calls():
            with self.subTest(work=work.__name__, rest=rest):
                told = work(*rest)
                names = list(inspect.signature(work).parameters)
                more = dict(list(zip(names, rest))[::-1])
                self.assertEqual(kinds(work(**more)), kinds(told))
                self.assertEqual(work(**more), told)
                other = work(*[swapped(one) for one in rest])
                self.assertEqual(other, told)
                self.assertEqual(kinds(other), kinds(told))

    def test_what_is_passed_stays(self):
        for work, rest in all_calls():
            with self.subTest(work=work.__name__, rest=rest):
                before = copy.deepcopy(rest)
                kept = kinds(rest)
                work(*rest)
                self.assertEqual(rest, before)
                self.assertEqual(kinds(rest), kept)

    def test_what_is_returned_is_new(self):
        for work, rest in all_calls():
            with self.subTest(work=work.__name__, rest=rest):
                told = work(*rest)
                before = kinds(told)
                passed = [id(one) for one in lists_in(rest)]
                within = lists_in(told)
                self.assertEqual(len({id(one) for one in within}), len(within))
                for one in within:
                    self.assertNotIn(id(one), passed)
                for one in within:
                    one.clear()
                self.assertEqual(kinds(work(*rest)), before)

    def test_dicts_in_the_order_of_the_questions(self):
        for field in FIELDS.values():
            world = field.home()
            if isinstance(world, dict):
                world = dict(list(world.items())[::-1])
            self.assertEqual(list(field.answers(world)), ["a", "b", "c", "s"])
        for field in (SUMS, SHARES):
            self.assertEqual(list(field.plan(["b", "a"], "s")), ["b", "a"])
            self.assertEqual(list(field.plan(["a", "b"], "s")), ["a", "b"])

    def test_errors_are_of_the_package(self):
        for work, rest in all_calls():
            for place in range(len(rest)):
                if not isinstance(rest[place], KINDS):
                    bent = [*rest[:place], object(), *rest[place + 1:]]
                    with self.subTest(work=work.__name__, place=place):
                        try:
                            work(*bent)
                        except WorldError as e:
                            self.assertEqual(type(e).__bases__, (WorldError,))

    def test_refused_calls_change_nothing(self):
        file = File(TABLE)
        file.learn("a")
        for work in (file.learn, file.forget, file.tells):
            self.assertIsNotNone(caught(NoQuestion, file.learn, []))
            with self.assertRaises(WorldError):
                work({})
        self.assertEqual((file.known(), file.undo(), file.undo()), (["a"], True, False))
        before = {name: [kinds(work(*rest)) for work, rest in field_calls(field)] for name, field in FIELDS.items()}
        for field in FIELDS.values():
            for work, rest in field_calls(field):
                if rest and rest[0] is not field:
                    with self.assertRaises(WorldError):
                        work(None, *rest[1:])
        self.assertEqual({name: [kinds(work(*rest)) for work, rest in field_calls(field)]
                          for name, field in FIELDS.items()}, before)


if __name__ == "__main__":
    unittest.main()
