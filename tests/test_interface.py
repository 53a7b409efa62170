"""The interface, the errors, and what all functions have in common."""

import importlib
import inspect
import unittest

from twoworlds import errors

ERRORS = {
    "BadWorld": "thing", "BadKnown": "index", "NoQuestion": "name", "BadPlan": "thing", "BadAnswers": "thing",
    "BadHands": "name", "BadGroup": "index", "NoHand": "name", "BadNumber": "thing", "Known": "name",
    "NotKnown": "name", "BadRow": "index", "UnlikeQuestions": "", "BadTree": "thing", "BadWeight": "index",
    "BadView": "name", "BadBox": "state", "BadAsk": "name", "NoState": "name", "NoLetter": "name", "BadPut": "index",
    "BadMarks": "thing", "BadLink": "sign", "UnlikeLetters": "", "BadUnknown": "index", "BadSum": "name",
    "BadPrime": "prime", "BadHolder": "index", "BadLetters": "thing", "BadMachine": "name", "BadIndex": "index",
    "TakenName": "name", "BadCode": "name", "BadClass": "name", "Uneven": "name", "BadReader": "thing",
    "NoClass": "name", "BadPart": "name", "BadBundle": "name", "BadLinks": "index", "BadTelling": "index",
    "BadText": "thing", "BadName": "name", "NoName": "name", "BadThing": "thing", "BadOrder": "line",
    "BadLine": "index", "NoRow": "", "BadWindow": "name", "Crowded": "first last", "BadPeople": "index",
    "BadPlaces": "index", "BadPlace": "thing", "BadFacts": "thing", "NoPerson": "name", "SamePerson": "name",
    "BadArc": "name", "BadNames": "index", "BadAmounts": "name", "BadPiece": "index",
}

FIELD = {
    "questions": "", "home": "", "answers": "world", "is_told": "known asked", "plan": "known asked",
    "is_plan": "known asked thing", "found": "known asked plan answers", "apart": "known asked",
    "are_apart": "known asked thing", "__eq__": "other",
}

CLASSES = {
    "tables.Table": {"__init__": "rows", "rows": "", "left": "answers", "may_be": "answers asked", "only": "names",
                     "__len__": "", "__add__": "other", **FIELD},
    "views.View": {"__init__": "field names", "names": "", **FIELD},
    "sums.Sums": {"__init__": "unknowns questions", "unknowns": "", "row": "name", **FIELD},
    "shares.Shares": {"__init__": "prime unknowns questions", "unknowns": "", "row": "name", **FIELD},
    "nets.Net": {"__init__": "arcs", "arcs": "", "nodes": "", "live": "", **FIELD},
    "pieces.Pieces": {"__init__": "letters pieces", "letters": "", **FIELD},
    "boxes.Box": {"__init__": "moves questions", "states": "", "letters": "", "move": "state letter",
                  "out": "state row", "end": "state row", **FIELD},
    "orders.Seats": {"__init__": "windows people=None places=None", "windows": "", "__len__": "", **FIELD},
    "codes.Codes": {"__init__": "letters codes classes", "letters": "", "code": "name", "class_of": "name",
                    "words": "known answers most", "shortest": "known answers", "how_many": "known answers",
                    "least_reader": "known asked", "is_reader": "known asked thing",
                    "read": "known asked reader answers", **FIELD},
    "machines.Machines": {"__init__": "letters readers", "letters": "", "reader": "name", "least_apart": "known asked",
                          "many_words": "known answers", "nth_word": "known answers index",
                          "may_say": "known answers asked", "lag": "known asked", "late_words": "known asked n",
                          "late_plan": "known asked n", "is_late_plan": "known asked n thing",
                          "unlike_word": "one other", "least_reader": "name", "only": "names", "__or__": "other", **FIELD},
    "mixes.Mix": {"__init__": "parts", "parts": "", **FIELD},
    "bundles.Bundles": {"__init__": "field bundles", "bundles": "", **FIELD},
    "desks.Desk": {"__init__": "", "keep": "name thing", "kept": "name", "names": "", "told": "line", "undo": "",
                   "again": "", "copy": "", "trial": "work", "log": ""},
    "files.File": {"__init__": "field", "learn": "name", "forget": "name", "known": "", "told": "", "tells": "name",
                   "undo": "", "again": "", "copy": "", "trial": "work"},
}

FUNCTIONS = {
    "engine.told_by": "field known", "engine.is_closed": "field known", "engine.needless": "field known asked",
    "engine.thinned": "field known asked", "engine.least_files": "field asked of=None",
    "engine.secrets": "field asked of=None", "engine.needed": "field asked of=None",
    "engine.idle": "field asked of=None",
    "trees.is_tree": "table asked thing of=None", "trees.depth_of": "table asked tree of=None",
    "trees.fewest": "table asked of=None", "trees.mean_fewest": "table weights asked of=None",
    "trees.hold": "table asked n of=None", "trees.is_hold": "table asked n thing of=None",
    "hands.knows": "field hands group asked", "hands.least_groups": "field hands asked",
    "hands.outsiders": "field hands asked", "hands.may_tell": "field hands name asked",
    "hands.is_safe": "field hands most asked",
    "sums.step": "sums known asked", "sums.parted": "sums known asked much", "sums.helps": "sums known asked",
    "clashes.world_of": "sums answers", "clashes.clash": "sums answers", "clashes.is_clash": "sums answers thing",
    "clashes.may_be": "sums answers asked", "ladders.ladder": "sums known",
    "shares.world_count": "shares answers", "shares.spread": "shares answers asked",
    "shares.handed_out": "prime holders least",
    "nets.table_net": "rows columns",
    "heights.heights": "net known amounts", "heights.are_heights": "net known amounts thing",
    "heights.sum_found": "net known amounts given answers", "heights.sum_apart": "net known amounts",
    "forests.cheapest": "net prices", "forests.is_cheapest": "net prices thing",
    "forests.hiding": "net known asked", "forests.is_hiding": "net known asked thing",
    "floors.least_at": "net known world asked", "floors.most_at": "net known world asked",
    "floors.bound_of": "net known answers asked side is_floor",
    "rings.numbers": "letters ring n", "rings.is_of_ring": "letters n thing", "rings.ring_of": "letters n counts",
    "rings.many_rings": "letters n counts", "rings.first_reading": "letters ring",
    "rings.all_rings": "letters n counts", "rings.exchanges": "letters ring n",
    "shown.shown_numbers": "letters n counts piece", "shown.settled_by": "letters n counts",
    "resets.parting_row": "box one other", "resets.alike_states": "box", "resets.least_moves": "box",
    "resets.reset_row": "box", "resets.keep": "box", "resets.is_keep": "box thing", "resets.now_row": "box",
    "resets.blind_list": "box", "resets.is_blind_list": "box thing",
    "firsts.first_tree": "box marks", "firsts.is_first_tree": "box marks thing", "firsts.first_row": "box marks",
    "firsts.hard_list": "box marks", "firsts.is_hard_list": "box marks thing",
    "links.linked_moves": "one other", "links.beside_moves": "one other",
    "orders.room": "seats first last", "orders.is_swap": "seats thing", "orders.swaps": "seats",
    "rows.way": "seats row other", "rows.is_way": "seats row other thing", "rows.can_be": "seats facts asked",
    "rows.row_with": "seats facts", "rows.stands": "seats name", "rows.earliest": "seats names",
    "rows.orders": "seats one other", "rows.tied": "seats", "rows.many_rows": "seats facts",
    "rows.number_of": "seats row", "rows.row_at": "seats number",
    "coders.is_code": "letters thing", "coders.is_class": "letters thing",
    "talks.talked": "field hands links tellings", "talks.all_talked": "field hands links",
    "talks.leak": "field hands links name asked", "talks.is_leak": "field hands links name asked thing",
    "talks.shield": "field hands links name asked", "talks.is_shield": "field hands links name asked thing",
    "cuts.ways": "field hands links name asked", "cuts.cuts": "field hands links name asked",
    "cuts.lightest_cut": "field hands links weights name asked",
    "texts.write_table": "table", "texts.read_table": "text", "texts.write_hands": "hands", "texts.read_hands": "text",
    "texts.write_links": "links", "texts.read_links": "text",
    "desks.replayed": "lines things",
}


def parameters(function):
    """The parameters of a function, as in the interface."""
    found = inspect.signature(function).parameters.values()
    return [one.name if one.default is inspect.Parameter.empty else f"{one.name}={one.default}" for one in found]


class TestInterface(unittest.TestCase):
    def test_functions(self):
        for path, names in FUNCTIONS.items():
            module = importlib.import_module("twoworlds." + path.split(".")[0])
            function = getattr(module, path.split(".")[1])
            with self.subTest(path):
                self.assertEqual(function.__module__, module.__name__)
                self.assertEqual(parameters(function), names.split())

    def test_classes(self):
        for path, methods in CLASSES.items():
            module = importlib.import_module("twoworlds." + path.split(".")[0])
            one = getattr(module, path.split(".")[1])
            self.assertEqual(one.__module__, module.__name__)
            for name, names in methods.items():
                with self.subTest(path, method=name):
                    self.assertIn(name, vars(one))
                    self.assertEqual(parameters(vars(one)[name])[1:], names.split())


class TestErrors(unittest.TestCase):
    def test_root(self):
        self.assertEqual(errors.WorldError.__bases__, (ValueError,))

    def test_each(self):
        self.assertEqual(len(ERRORS), 60)
        for name, names in ERRORS.items():
            names = names.split()
            one = getattr(errors, name)
            with self.subTest(name):
                self.assertEqual(one.__module__, "twoworlds.errors")
                self.assertEqual(one.__bases__, (errors.WorldError,))
                things = [[object()] for _ in names]
                for made in (one(*things), one(**dict(zip(names, things)))):
                    for attribute, thing in zip(names, things):
                        self.assertIs(getattr(made, attribute), thing)
                    self.assertEqual(set(vars(made)), set(names))
                with self.assertRaises(one):
                    raise made
                if names:
                    with self.assertRaises(TypeError):
                        one()

    def test_two_parameters_in_another_order(self):
        made = errors.Crowded(last=4, first=2)
        self.assertEqual((made.first, made.last), (2, 4))
        made = errors.Crowded(2, 4)
        self.assertEqual((made.first, made.last), (2, 4))


if __name__ == "__main__":
    unittest.main()
