"""Promises [5], [27], [40], [54], [62] and [72]: each function at the sizes that the document names, under a time limit."""

import random
import unittest
from itertools import product

from tests.helpers import drawn_flow, subsets, within
from twoworlds import clashes, engine, firsts, floors, forests, hands, heights, ladders, links, resets, rings, shares
from twoworlds import shown, sums, trees
from twoworlds.boxes import Box
from twoworlds.files import File
from twoworlds.nets import Net, table_net
from twoworlds.pieces import Pieces
from twoworlds.shares import Shares
from twoworlds.sums import Sums
from twoworlds.tables import Table
from twoworlds.views import View

SECONDS = 20
PRIMES = (999999999999989, 999999999999947, 10 ** 15 - 1, 2, 720720 ** 2)


def large_table(rng, questions=16, rows=60, most=3):
    names = [f"question{place}" for place in range(questions)]
    return Table([{name: rng.randrange(most) for name in names} for _ in range(rows)])


def large_sums(rng, moduli, sparse=False):
    unknowns = [f"unknown{place}" for place in range(6)]
    return Sums(unknowns, {f"q{place}": (
        {name: rng.randint(-10 ** 15 + 1, 10 ** 15 - 1) for name in unknowns if not sparse or rng.random() < 0.4},
        rng.choice(moduli)) for place in range(10)})


class TestTables(unittest.TestCase):
    def test_engine_and_hands(self):
        rng = random.Random(270)
        for most in (2, 3, 1000):
            table = large_table(rng, most=most)
            names = table.questions()
            view = View(View(table, {f"v{place}": names[place] for place in range(16)}),
                        {f"w{place}": f"v{rng.randrange(16)}" for place in range(16)})
            for field in (table, view):
                self.look(rng, field)

    def look(self, rng, field):
        names = field.questions()
        of, asked = rng.sample(names, 9), names[0]
        with within(SECONDS):
            engine.told_by(field, names)
            engine.is_closed(field, names[:8])
            engine.needless(field, names[::-1], asked)
            engine.thinned(field, names[::-1], asked)
            for work in (engine.least_files, engine.secrets, engine.needed, engine.idle):
                work(field, asked, of)
            held = {f"hand{place}": rng.sample(names, 3) for place in range(7)}
            for work in (hands.least_groups, hands.outsiders):
                work(field, held, asked)
            for name in held:
                hands.may_tell(field, held, name, asked)
            hands.is_safe(field, held, 7, asked)
            plan = field.plan(names, asked)
            self.assertTrue(field.is_plan(names, asked, plan))
            self.assertEqual(field.found(names, asked, plan, field.answers(field.home())),
                             field.answers(field.home())[asked])

    def test_files(self):
        rng = random.Random(20)
        with within(SECONDS):
            file = File(large_table(rng))
            for place in range(16):
                file.learn(f"question{place}")
                file.told()
            for _ in range(24):
                file.forget(file.known()[0])
                file.learn(f"question{rng.choice([k for k in range(16) if f'question{k}' not in file.known()])}")
            while file.undo():
                file.told()
            while file.again():
                file.copy().told()

    def test_trees_and_holds(self):
        rng = random.Random(240)
        for most in (2, 2, 3, 4, 16):
            table = large_table(rng, questions=7, rows=16, most=most)
            names, asked = table.questions()[1:], table.questions()[0]
            with within(SECONDS):
                found = trees.fewest(table, asked, names)
                weights = [rng.randint(1, 1000) for _ in range(16)]
                mean = trees.mean_fewest(table, weights, asked, names)
                for n in range(5):
                    told = trees.hold(table, asked, n, names)
                    self.assertEqual(told is None, found is not None and found[0] < n)
                    self.assertEqual(trees.is_hold(table, asked, n, told, names), told is not None)
                if found is not None:
                    self.assertEqual(trees.depth_of(table, asked, found[1], names), found[0])
                    self.assertTrue(trees.is_tree(table, asked, mean[1], names))

    def test_no_tree_with_many_questions(self):
        rows = [{f"q{place}": number >> place & 1 for place in range(4)} for number in range(16)]
        table = Table([{**row, "x": 0, "y": at % 3, "s": at if at < 15 else 3} for at, row in enumerate(rows)])
        with within(SECONDS):
            self.assertEqual(trees.fewest(table, "s")[0], 4)
            self.assertIsNotNone(trees.hold(table, "s", 4))
            self.assertIsNotNone(trees.hold(table, "s", 4, ["q0", "q1", "q2", "x", "y"]))


class TestSums(unittest.TestCase):
    def test_large(self):
        rng = random.Random(40)
        for moduli in ((0,), PRIMES, (0, *PRIMES), (10 ** 15 - 1,), (0, 0, 2)):
            for sparse in (False, True):
                with within(SECONDS):
                    self.look(rng, large_sums(rng, moduli, sparse))

    def look(self, rng, field):
        names = field.questions()
        asked, known = names[9], rng.sample(names, 6)
        for one in (known, names, names[:9], []):
            plan, pair = field.plan(one, asked), field.apart(one, asked)
            self.assertEqual(plan is None, pair is not None)
            if plan is None:
                self.assertTrue(field.are_apart(one, asked, pair))
            else:
                self.assertTrue(field.is_plan(one, asked, plan))
            by = sums.step(field, one, asked)
            for much in (by, by * (10 ** 68 // (by + 1)), 10 ** 70 - 1):
                sums.parted(field, one, asked, much)
            sums.helps(field, one, asked)
            ladders.ladder(field, one)
        for work in (engine.least_files, engine.secrets, engine.needed, engine.idle):
            work(field, asked)
        self.look_at_answers(rng, field, asked)
        held = {f"hand{place}": rng.sample(names, 3) for place in range(7)}
        hands.least_groups(field, held, asked)
        hands.outsiders(field, held, asked)

    def look_at_answers(self, rng, field, asked):
        world = {name: rng.randrange(10 ** 70) for name in field.unknowns()}
        answers = field.answers(world)
        for many in (10, 6, 3):
            self.assertIsNotNone(clashes.world_of(field, {name: answers[name] for name in rng.sample(
                field.questions(), many)}))
        drawn = {name: rng.randrange(field.row(name)[1] or 10 ** 70) for name in answers}
        found = clashes.clash(field, drawn)
        self.assertEqual(found is None, clashes.may_be(field, drawn, asked) is not None)
        if found is not None:
            self.assertTrue(clashes.is_clash(field, drawn, found))
        thing = {name: (rng.randrange(10 ** 70), rng.randrange(1, 10 ** 70)) for name in answers}
        self.assertFalse(clashes.is_clash(field, drawn, thing))
        self.assertFalse(field.is_plan(field.questions(), asked, thing))

    def test_shares(self):
        rng = random.Random(41)
        for prime in (2, 997):
            unknowns = [f"u{place}" for place in range(6)]
            field = Shares(prime, unknowns, {f"q{place}": {
                name: rng.randint(-10 ** 15, 10 ** 15) for name in unknowns} for place in range(10)})
            with within(SECONDS):
                for file in subsets(field.questions()):
                    self.assertEqual(field.plan(file, "q9") is None, field.apart(file, "q9") is not None)
                engine.least_files(field, "q9")
                self.assertEqual(shares.world_count(field, {}), prime ** 6)
                self.assertEqual(sum(shares.spread(field, {"q1": 1}, "q9")), prime ** 5)
        with within(SECONDS):
            out = shares.handed_out(997, [f"holder{place}" for place in range(9)], 5)
            self.assertEqual(len(engine.least_files(out, "secret")), 126)


class TestNets(unittest.TestCase):
    def test_large(self):
        rng = random.Random(54)
        nets = [table_net(["r", "q", "s"], ["x", "y"]), table_net(["r"], ["x", "y", "z", "w", "v"])]
        for nodes in (1, 2, 5, 8, 16, 32):
            nets.append(Net({f"arc{place}": (f"n{rng.randrange(nodes)}", f"n{rng.randrange(nodes)}")
                             for place in range(16)}))
        nets.append(Net({f"arc{place}": (f"n{place // 2}", f"n{(place // 2 + 1) % 8}") for place in range(16)}))
        for net in nets:
            with within(SECONDS):
                self.look(rng, net)

    def look(self, rng, net):
        names = net.questions()
        prices = {name: rng.randrange(10 ** 15) for name in names}
        self.assertTrue(forests.is_cheapest(net, prices, forests.cheapest(net, prices)[1]))
        held = {f"hand{place}": rng.sample(names, 3) for place in range(min(7, len(names)))}
        for work in (engine.least_files, engine.secrets, engine.needed, engine.idle):
            work(net, names[0], rng.sample(names, 9))
        hands.least_groups(net, held, names[0])
        for _ in range(20):
            known, world = rng.sample(names, rng.randint(0, len(names))), drawn_flow(rng, net, 10 ** 14)
            amounts = {name: rng.randint(-1000, 1000) for name in names}
            given = heights.heights(net, known, amounts)
            self.assertEqual(given is None, heights.sum_apart(net, known, amounts) is not None)
            if given is not None:
                self.assertEqual(heights.sum_found(net, known, amounts, given, world),
                                 sum(amounts[name] * world[name] for name in names))
            for asked in names:
                told = forests.hiding(net, known, asked)
                self.assertEqual(forests.is_hiding(net, known, asked, told), told not in (None, ([], {})))
                self.assertEqual(net.plan(known, asked) is None, net.apart(known, asked) is not None)
                least, most = floors.least_at(net, known, world, asked), floors.most_at(net, known, world, asked)
                self.assertTrue(least[0] <= world[asked] and (most[0] is None or world[asked] <= most[0]))


class TestRings(unittest.TestCase):
    def test_large(self):
        rng = random.Random(62)
        for letters in ("a", "ab", "abc"):
            for n in (1, 2, 3):
                ring = "".join(rng.choice(letters) for _ in range(40))
                with within(SECONDS):
                    counts = rings.numbers(letters, ring, n)
                    self.assertGreater(rings.many_rings(letters, n, counts), 0)
                    self.assertEqual(rings.numbers(letters, rings.ring_of(letters, n, counts), n), counts)
                    rings.first_reading(letters, ring)
                    counts = rings.numbers(letters, ring[:9], n)
                    found = rings.all_rings(letters, n, counts)
                    self.assertIn(rings.first_reading(letters, ring[:9]), found)
                    rings.exchanges(letters, ring[:12], n)
                    shown.shown_numbers(letters, n, counts, (letters * 6)[:6])
                    shown.settled_by(letters, n, counts)
                    self.assertTrue(rings.is_of_ring(letters, n, {piece: 10 ** 14 * number
                                                                  for piece, number in counts.items()}))

    def test_pieces(self):
        rng = random.Random(621)
        for letters in ("a", "ab", "abc", "abc"):
            words = [word for many in (1, 2, 3) for word in map("".join, product(letters, repeat=many))]
            field = Pieces(letters, rng.sample(words, min(16, len(words))))
            names = field.questions()
            of, asked = rng.sample(names, min(9, len(names))), names[0]
            with within(SECONDS):
                for work in (engine.least_files, engine.secrets, engine.needed, engine.idle):
                    work(field, asked, of)
                engine.told_by(field, names[1:])
                engine.thinned(field, names, asked)
                held = {f"hand{place}": rng.sample(names, 3) for place in range(7)}
                hands.least_groups(field, held, asked)
                for _ in range(60):
                    known, asked = rng.sample(names, rng.randint(0, len(names))), rng.choice(names)
                    plan, pair = field.plan(known, asked), field.apart(known, asked)
                    self.assertEqual(plan is None, pair is not None)
                    if plan is None:
                        self.assertTrue(field.are_apart(known, asked, pair))
                    else:
                        self.assertTrue(field.is_plan(known, asked, plan))
                    thing = {name: (rng.randrange(1, 10 ** 15), rng.randrange(1, 10 ** 15)) for name in known}
                    self.assertFalse(field.is_plan(known, asked, thing))


class TestBoxes(unittest.TestCase):
    def drawn(self, rng, many, letters, few, mixing):
        states = [f"state{place}" for place in range(many)]
        moves = {state: {} for state in states}
        for letter in letters:
            ends = rng.sample(states, many) if rng.random() < mixing else [rng.choice(states) for _ in states]
            for state, end in zip(states, ends):
                moves[state][letter] = ("u" if few and state != states[0] else rng.choice("uv"), end)
        rows = [[rng.choice(letters) for _ in range(12)] for _ in range(15)]
        return Box(moves, {f"q{place}": row if place % 2 else (row, {state: rng.randrange(3) for state in states})
                           for place, row in enumerate(rows)})

    def test_fields(self):
        rng = random.Random(72)
        for _ in range(6):
            box = self.drawn(rng, 8, "xyzw", rng.random() < 0.5, 0.5)
            names = box.questions()
            with within(SECONDS):
                for work in (engine.least_files, engine.secrets, engine.needed, engine.idle):
                    work(box, names[0], rng.sample(names, 9))
                engine.told_by(box, names)
                for asked in names:
                    plan = box.plan(names[:3], asked)
                    self.assertEqual(plan is None, box.apart(names[:3], asked) is not None)

    def test_rows(self):
        rng = random.Random(721)
        for place in range(80):
            box = self.drawn(rng, 8, "xyzw"[:rng.randint(2, 4)], place % 2, rng.choice((0.5, 0.8, 1)))
            with within(SECONDS):
                resets.least_moves(box)
                for row, pairs, tells in ((resets.reset_row, resets.keep, resets.is_keep),
                                          (resets.now_row, resets.blind_list, resets.is_blind_list)):
                    found = pairs(box)
                    self.assertEqual(found is None, row(box) is not None)
                    if found is not None:
                        self.assertTrue(tells(box, (found * 80)[:80]))

    def test_cerny(self):
        # The longest of all first rows that bring eight states to one.
        states = [f"s{place}" for place in range(8)]
        box = Box({state: {"a": ("u", states[(place + 1) % 8]), "b": ("u", states[0 if place == 7 else place])}
                   for place, state in enumerate(states)}, {"q": []})
        with within(SECONDS):
            self.assertEqual(len(resets.reset_row(box)), 49)
            self.assertEqual(len(resets.now_row(box)), 49)

    def test_firsts(self):
        rng = random.Random(722)
        for place in range(60):
            box = self.drawn(rng, 5, "xyz", place % 3, rng.choice((0.5, 0.8, 1)))
            marks = {state: at if place % 2 else rng.randrange(3) for at, state in enumerate(box.states())}
            with within(SECONDS):
                tree, hard = firsts.first_tree(box, marks), firsts.hard_list(box, marks)
                self.assertEqual(tree is None, hard is not None)
                self.assertEqual(firsts.is_first_tree(box, marks, tree), tree is not None)
                self.assertEqual(firsts.is_hard_list(box, marks, hard), hard is not None)
                firsts.first_row(box, marks)
                states = box.states()
                thing = [[(one, one) for one in states]] + [[(rng.choice(states), rng.choice(states)) for one in states]
                                                             for _ in range(199)]
                firsts.is_hard_list(box, marks, thing)

    def test_links(self):
        rng = random.Random(723)
        for _ in range(20):
            one, other = self.drawn(rng, 4, "uvxy", False, 0.7), self.drawn(rng, 4, "uvxy", False, 0.7)
            with within(SECONDS):
                for work in (links.linked_moves, links.beside_moves):
                    box = Box(work(one, other), {"q": []})
                    self.assertEqual(len(box.states()), 16)
                    self.assertEqual(resets.reset_row(box) is None, resets.keep(box) is not None)
                    resets.alike_states(box)


if __name__ == "__main__":
    unittest.main()
