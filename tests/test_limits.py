"""Promises [5], [27], [40], [54], [62], [72], [82], [92], [102] and [114]: the sizes that the document names, in time."""

import random
import unittest
from itertools import product

from tests.helpers import drawn_flow, subsets, within
from twoworlds import clashes, cuts, engine, firsts, floors, forests, hands, heights, ladders, links, orders, resets
from twoworlds import rings, rows, shares, shown, sums, talks, texts, trees
from twoworlds.boxes import Box
from twoworlds.bundles import Bundles
from twoworlds.codes import Codes
from twoworlds.desks import Desk, replayed
from twoworlds.files import File
from twoworlds.machines import Machines
from twoworlds.mixes import Mix
from twoworlds.nets import Net, table_net
from twoworlds.orders import Seats
from twoworlds.pieces import Pieces
from twoworlds.shares import Shares
from twoworlds.sums import Sums
from twoworlds.tables import Table
from twoworlds.views import View

SECONDS = 20
HANDS = ["jo", "al", "kay", "bo"]
PAIRS = [(one, other) for one in HANDS for other in HANDS if one != other]
PRIMES = (999999999999989, 999999999999947, 10 ** 15 - 1, 2, 720720 ** 2)


def large_table(rng, questions=16, rows=60, most=3):
    names = [f"question{place}" for place in range(questions)]
    return Table([{name: rng.randrange(most) for name in names} for _ in range(rows)])


def large_sums(rng, moduli, sparse=False):
    unknowns = [f"unknown{place}" for place in range(6)]
    return Sums(unknowns, {f"q{place}": (
        {name: rng.randint(-10 ** 15 + 1, 10 ** 15 - 1) for name in unknowns if not sparse or rng.random() < 0.4},
        rng.choice(moduli)) for place in range(10)})


class TestTables(unittest.TestCase):
    def test_engine_and_hands(self):
        rng = random.Random(270)
        for most in (2, 3, 1000):
            table = large_table(rng, most=most)
            names = table.questions()
            view = View(View(table, {f"v{place}": names[place] for place in range(16)}),
                        {f"w{place}": f"v{rng.randrange(16)}" for place in range(16)})
            for field in (table, view):
                self.look(rng, field)

    def look(self, rng, field):
        names = field.questions()
        of, asked = rng.sample(names, 9), names[0]
        with within(SECONDS):
            engine.told_by(field, names)
            engine.is_closed(field, names[:8])
            engine.needless(field, names[::-1], asked)
            engine.thinned(field, names[::-1], asked)
            for work in (engine.least_files, engine.secrets, engine.needed, engine.idle):
                work(field, asked, of)
            held = {f"hand{place}": rng.sample(names, 3) for place in range(7)}
            for work in (hands.least_groups, hands.outsiders):
                work(field, held, asked)
            for name in held:
                hands.may_tell(field, held, name, asked)
            hands.is_safe(field, held, 7, asked)
            plan = field.plan(names, asked)
            self.assertTrue(field.is_plan(names, asked, plan))
            self.assertEqual(field.found(names, asked, plan, field.answers(field.home())),
                             field.answers(field.home())[asked])

    def test_files(self):
        rng = random.Random(20)
        with within(SECONDS):
            file = File(large_table(rng))
            for place in range(16):
                file.learn(f"question{place}")
                file.told()
            for _ in range(24):
                file.forget(file.known()[0])
                file.learn(f"question{rng.choice([k for k in range(16) if f'question{k}' not in file.known()])}")
            while file.undo():
                file.told()
            while file.again():
                file.copy().told()

    def test_trees_and_holds(self):
        rng = random.Random(240)
        for most in (2, 2, 3, 4, 16):
            table = large_table(rng, questions=7, rows=16, most=most)
            names, asked = table.questions()[1:], table.questions()[0]
            with within(SECONDS):
                found = trees.fewest(table, asked, names)
                weights = [rng.randint(1, 1000) for _ in range(16)]
                mean = trees.mean_fewest(table, weights, asked, names)
                for n in range(5):
                    told = trees.hold(table, asked, n, names)
                    self.assertEqual(told is None, found is not None and found[0] < n)
                    self.assertEqual(trees.is_hold(table, asked, n, told, names), told is not None)
                if found is not None:
                    self.assertEqual(trees.depth_of(table, asked, found[1], names), found[0])
                    self.assertTrue(trees.is_tree(table, asked, mean[1], names))

    def test_no_tree_with_many_questions(self):
        rows = [{f"q{place}": number >> place & 1 for place in range(4)} for number in range(16)]
        table = Table([{**row, "x": 0, "y": at % 3, "s": at if at < 15 else 3} for at, row in enumerate(rows)])
        with within(SECONDS):
            self.assertEqual(trees.fewest(table, "s")[0], 4)
            self.assertIsNotNone(trees.hold(table, "s", 4))
            self.assertIsNotNone(trees.hold(table, "s", 4, ["q0", "q1", "q2", "x", "y"]))


class TestSums(unittest.TestCase):
    def test_large(self):
        rng = random.Random(40)
        for moduli in ((0,), PRIMES, (0, *PRIMES), (10 ** 15 - 1,), (0, 0, 2)):
            for sparse in (False, True):
                with within(SECONDS):
                    self.look(rng, large_sums(rng, moduli, sparse))

    def look(self, rng, field):
        names = field.questions()
        asked, known = names[9], rng.sample(names, 6)
        for one in (known, names, names[:9], []):
            plan, pair = field.plan(one, asked), field.apart(one, asked)
            self.assertEqual(plan is None, pair is not None)
            if plan is None:
                self.assertTrue(field.are_apart(one, asked, pair))
            else:
                self.assertTrue(field.is_plan(one, asked, plan))
            by = sums.step(field, one, asked)
            for much in (by, by * (10 ** 68 // (by + 1)), 10 ** 70 - 1):
                sums.parted(field, one, asked, much)
            sums.helps(field, one, asked)
            ladders.ladder(field, one)
        for work in (engine.least_files, engine.secrets, engine.needed, engine.idle):
            work(field, asked)
        self.look_at_answers(rng, field, asked)
        held = {f"hand{place}": rng.sample(names, 3) for place in range(7)}
        hands.least_groups(field, held, asked)
        hands.outsiders(field, held, asked)

    def look_at_answers(self, rng, field, asked):
        world = {name: rng.randrange(10 ** 70) for name in field.unknowns()}
        answers = field.answers(world)
        for many in (10, 6, 3):
            self.assertIsNotNone(clashes.world_of(field, {name: answers[name] for name in rng.sample(
                field.questions(), many)}))
        drawn = {name: rng.randrange(field.row(name)[1] or 10 ** 70) for name in answers}
        found = clashes.clash(field, drawn)
        self.assertEqual(found is None, clashes.may_be(field, drawn, asked) is not None)
        if found is not None:
            self.assertTrue(clashes.is_clash(field, drawn, found))
        thing = {name: (rng.randrange(10 ** 70), rng.randrange(1, 10 ** 70)) for name in answers}
        self.assertFalse(clashes.is_clash(field, drawn, thing))
        self.assertFalse(field.is_plan(field.questions(), asked, thing))

    def test_shares(self):
        rng = random.Random(41)
        for prime in (2, 997):
            unknowns = [f"u{place}" for place in range(6)]
            field = Shares(prime, unknowns, {f"q{place}": {
                name: rng.randint(-10 ** 15, 10 ** 15) for name in unknowns} for place in range(10)})
            with within(SECONDS):
                for file in subsets(field.questions()):
                    self.assertEqual(field.plan(file, "q9") is None, field.apart(file, "q9") is not None)
                engine.least_files(field, "q9")
                self.assertEqual(shares.world_count(field, {}), prime ** 6)
                self.assertEqual(sum(shares.spread(field, {"q1": 1}, "q9")), prime ** 5)
        with within(SECONDS):
            out = shares.handed_out(997, [f"holder{place}" for place in range(9)], 5)
            self.assertEqual(len(engine.least_files(out, "secret")), 126)


class TestNets(unittest.TestCase):
    def test_large(self):
        rng = random.Random(54)
        nets = [table_net(["r", "q", "s"], ["x", "y"]), table_net(["r"], ["x", "y", "z", "w", "v"])]
        for nodes in (1, 2, 5, 8, 16, 32):
            nets.append(Net({f"arc{place}": (f"n{rng.randrange(nodes)}", f"n{rng.randrange(nodes)}")
                             for place in range(16)}))
        nets.append(Net({f"arc{place}": (f"n{place // 2}", f"n{(place // 2 + 1) % 8}") for place in range(16)}))
        for net in nets:
            with within(SECONDS):
                self.look(rng, net)

    def look(self, rng, net):
        names = net.questions()
        prices = {name: rng.randrange(10 ** 15) for name in names}
        self.assertTrue(forests.is_cheapest(net, prices, forests.cheapest(net, prices)[1]))
        held = {f"hand{place}": rng.sample(names, 3) for place in range(min(7, len(names)))}
        for work in (engine.least_files, engine.secrets, engine.needed, engine.idle):
            work(net, names[0], rng.sample(names, 9))
        hands.least_groups(net, held, names[0])
        for _ in range(20):
            known, world = rng.sample(names, rng.randint(0, len(names))), drawn_flow(rng, net, 10 ** 14)
            amounts = {name: rng.randint(-1000, 1000) for name in names}
            given = heights.heights(net, known, amounts)
            self.assertEqual(given is None, heights.sum_apart(net, known, amounts) is not None)
            if given is not None:
                self.assertEqual(heights.sum_found(net, known, amounts, given, world),
                                 sum(amounts[name] * world[name] for name in names))
            for asked in names:
                told = forests.hiding(net, known, asked)
                self.assertEqual(forests.is_hiding(net, known, asked, told), told not in (None, ([], {})))
                self.assertEqual(net.plan(known, asked) is None, net.apart(known, asked) is not None)
                least, most = floors.least_at(net, known, world, asked), floors.most_at(net, known, world, asked)
                self.assertTrue(least[0] <= world[asked] and (most[0] is None or world[asked] <= most[0]))


class TestRings(unittest.TestCase):
    def test_large(self):
        rng = random.Random(62)
        for letters in ("a", "ab", "abc"):
            for n in (1, 2, 3):
                ring = "".join(rng.choice(letters) for _ in range(40))
                with within(SECONDS):
                    counts = rings.numbers(letters, ring, n)
                    self.assertGreater(rings.many_rings(letters, n, counts), 0)
                    self.assertEqual(rings.numbers(letters, rings.ring_of(letters, n, counts), n), counts)
                    rings.first_reading(letters, ring)
                    counts = rings.numbers(letters, ring[:9], n)
                    found = rings.all_rings(letters, n, counts)
                    self.assertIn(rings.first_reading(letters, ring[:9]), found)
                    rings.exchanges(letters, ring[:12], n)
                    shown.shown_numbers(letters, n, counts, (letters * 6)[:6])
                    shown.settled_by(letters, n, counts)
                    self.assertTrue(rings.is_of_ring(letters, n, {piece: 10 ** 14 * number
                                                                  for piece, number in counts.items()}))

    def test_pieces(self):
        rng = random.Random(621)
        for letters in ("a", "ab", "abc", "abc"):
            words = [word for many in (1, 2, 3) for word in map("".join, product(letters, repeat=many))]
            field = Pieces(letters, rng.sample(words, min(16, len(words))))
            names = field.questions()
            of, asked = rng.sample(names, min(9, len(names))), names[0]
            with within(SECONDS):
                for work in (engine.least_files, engine.secrets, engine.needed, engine.idle):
                    work(field, asked, of)
                engine.told_by(field, names[1:])
                engine.thinned(field, names, asked)
                held = {f"hand{place}": rng.sample(names, 3) for place in range(7)}
                hands.least_groups(field, held, asked)
                for _ in range(60):
                    known, asked = rng.sample(names, rng.randint(0, len(names))), rng.choice(names)
                    plan, pair = field.plan(known, asked), field.apart(known, asked)
                    self.assertEqual(plan is None, pair is not None)
                    if plan is None:
                        self.assertTrue(field.are_apart(known, asked, pair))
                    else:
                        self.assertTrue(field.is_plan(known, asked, plan))
                    thing = {name: (rng.randrange(1, 10 ** 15), rng.randrange(1, 10 ** 15)) for name in known}
                    self.assertFalse(field.is_plan(known, asked, thing))


class TestBoxes(unittest.TestCase):
    def drawn(self, rng, many, letters, few, mixing):
        states = [f"state{place}" for place in range(many)]
        moves = {state: {} for state in states}
        for letter in letters:
            ends = rng.sample(states, many) if rng.random() < mixing else [rng.choice(states) for _ in states]
            for state, end in zip(states, ends):
                moves[state][letter] = ("u" if few and state != states[0] else rng.choice("uv"), end)
        rows = [[rng.choice(letters) for _ in range(12)] for _ in range(15)]
        return Box(moves, {f"q{place}": row if place % 2 else (row, {state: rng.randrange(3) for state in states})
                           for place, row in enumerate(rows)})

    def test_fields(self):
        rng = random.Random(72)
        for _ in range(6):
            box = self.drawn(rng, 8, "xyzw", rng.random() < 0.5, 0.5)
            names = box.questions()
            with within(SECONDS):
                for work in (engine.least_files, engine.secrets, engine.needed, engine.idle):
                    work(box, names[0], rng.sample(names, 9))
                engine.told_by(box, names)
                for asked in names:
                    plan = box.plan(names[:3], asked)
                    self.assertEqual(plan is None, box.apart(names[:3], asked) is not None)

    def test_rows(self):
        rng = random.Random(721)
        for place in range(80):
            box = self.drawn(rng, 8, "xyzw"[:rng.randint(2, 4)], place % 2, rng.choice((0.5, 0.8, 1)))
            with within(SECONDS):
                resets.least_moves(box)
                for row, pairs, tells in ((resets.reset_row, resets.keep, resets.is_keep),
                                          (resets.now_row, resets.blind_list, resets.is_blind_list)):
                    found = pairs(box)
                    self.assertEqual(found is None, row(box) is not None)
                    if found is not None:
                        self.assertTrue(tells(box, (found * 80)[:80]))

    def test_cerny(self):
        # The longest of all first rows that bring eight states to one.
        states = [f"s{place}" for place in range(8)]
        box = Box({state: {"a": ("u", states[(place + 1) % 8]), "b": ("u", states[0 if place == 7 else place])}
                   for place, state in enumerate(states)}, {"q": []})
        with within(SECONDS):
            self.assertEqual(len(resets.reset_row(box)), 49)
            self.assertEqual(len(resets.now_row(box)), 49)

    def test_firsts(self):
        rng = random.Random(722)
        for place in range(60):
            box = self.drawn(rng, 5, "xyz", place % 3, rng.choice((0.5, 0.8, 1)))
            marks = {state: at if place % 2 else rng.randrange(3) for at, state in enumerate(box.states())}
            with within(SECONDS):
                tree, hard = firsts.first_tree(box, marks), firsts.hard_list(box, marks)
                self.assertEqual(tree is None, hard is not None)
                self.assertEqual(firsts.is_first_tree(box, marks, tree), tree is not None)
                self.assertEqual(firsts.is_hard_list(box, marks, hard), hard is not None)
                firsts.first_row(box, marks)
                states = box.states()
                thing = [[(one, one) for one in states]] + [[(rng.choice(states), rng.choice(states)) for one in states]
                                                             for _ in range(199)]
                firsts.is_hard_list(box, marks, thing)

    def test_links(self):
        rng = random.Random(723)
        for _ in range(20):
            one, other = self.drawn(rng, 4, "uvxy", False, 0.7), self.drawn(rng, 4, "uvxy", False, 0.7)
            with within(SECONDS):
                for work in (links.linked_moves, links.beside_moves):
                    box = Box(work(one, other), {"q": []})
                    self.assertEqual(len(box.states()), 16)
                    self.assertEqual(resets.reset_row(box) is None, resets.keep(box) is not None)
                    resets.alike_states(box)


class TestRows(unittest.TestCase):
    def test_large(self):
        rng = random.Random(82)
        for far in (1, 3, 9, 9):
            windows = {f"person{at}": (max(0, at - rng.randint(0, far)), min(9, at + rng.randint(0, far)))
                       for at in rng.sample(range(10), 10)}
            with within(SECONDS):
                self.look(rng, windows, far)

    def look(self, rng, windows, far):
        people = list(windows)
        seats = Seats(windows, rng.sample(people, 8), rng.sample(range(10), 8))
        names = seats.questions()
        of = rng.sample(names[1:], 9)
        for work in (engine.least_files, engine.secrets, engine.needed, engine.idle):
            work(seats, names[0], of)
        engine.told_by(seats, names[4:12])
        held = {f"hand{place}": rng.sample(names, 3) for place in range(7)}
        hands.least_groups(seats, held, names[0])
        for _ in range(40):
            known, asked = rng.sample(names, rng.randint(0, 16)), rng.choice(names)
            plan, pair = seats.plan(known, asked), seats.apart(known, asked)
            self.assertEqual(plan is None, pair is not None)
            if plan is None:
                self.assertTrue(seats.are_apart(known, asked, pair))
            else:
                answers = seats.answers(seats.home())
                self.assertTrue(seats.is_plan(known, asked, plan))
                self.assertEqual(seats.found(known, asked, plan, answers), answers[asked])
        many = rows.many_rows(seats, {})
        for number in [rng.randrange(many) for _ in range(20)]:
            row = rows.row_at(seats, number)
            self.assertEqual(rows.number_of(seats, row), number)
            self.assertTrue(rows.is_way(seats, row, seats.home(), rows.way(seats, row, seats.home())))
            facts = {name: seats.answers(row)[name] for name in rng.sample(names, 3)}
            rows.can_be(seats, facts, rng.choice(names))
            self.assertTrue(rows.many_rows(seats, facts) > 0 and rows.row_with(seats, facts))
        self.assertEqual(many == 3628800, all(window == (0, 9) for window in windows.values()))
        rows.tied(seats)
        eight = Seats({f"p{at}": (max(0, at - far), min(7, at + far)) for at in range(8)})
        for name in eight.windows():
            rows.stands(eight, name)
            rows.earliest(eight, [name])
            for other in eight.windows():
                if name != other:
                    self.assertEqual(rows.orders(eight, name, other)[0],
                                     not rows.orders(eight, other, name)[-1])

    def test_all_rows(self):
        seats = Seats({f"p{at}": (0, 9) for at in range(10)})
        with within(SECONDS):
            self.assertEqual(rows.many_rows(seats, {}), 3628800)
            self.assertEqual(rows.number_of(seats, rows.row_at(seats, 3628799)), 3628799)
            self.assertEqual(len(orders.swaps(seats)), 2025)
            self.assertEqual(len(engine.least_files(seats, "p0", [f"p{at}" for at in range(1, 10)])), 1)


def drawn_code(rng, letters, many, signs, least, most):
    states = [f"s{place}" for place in range(many)]
    return {state: {letter: (rng.choice(states), "".join(rng.choice(signs) for _ in range(rng.randint(least, most))))
                    for letter in letters} for state in states}


def drawn_class(rng, letters, many, most):
    states = [f"s{place}" for place in range(many)]
    return {state: (rng.randint(-most, most), {letter: rng.choice(states) for letter in letters}) for state in states}


class TestCodes(unittest.TestCase):
    def test_large(self):
        rng = random.Random(92)
        told = 0
        for _ in range(30):
            letters = "abcd"[:rng.randint(1, 4)]
            signs, (least, most) = rng.choice(("0", "01", "0123")), rng.choice(((0, 3), (1, 3), (3, 3), (1, 1), (0, 1)))
            field = Codes(letters, {"c": drawn_code(rng, letters, 6, signs, least, most)},
                          {"k": drawn_class(rng, letters, 5, rng.choice((0, 1, 1000)))})
            with within(SECONDS):
                for known, asked in ((["c"], "k"), (["k"], "c"), (["c", "k"], "k"), ([], "k"), (["c"], "c")):
                    told += self.look(rng, field, letters, known, asked)
        self.assertGreater(told, 60)

    def look(self, rng, field, letters, known, asked):
        plan, pair = field.plan(known, asked), field.apart(known, asked)
        self.assertEqual(plan is None, pair is not None)
        word = "".join(rng.choice(letters) for _ in range(40))
        while len(field.answers(word)["c"]) > 60:
            word = word[:-1]
        answers = field.answers(word)
        if plan is None:
            self.assertTrue(field.are_apart(known, asked, pair))
        else:
            self.assertTrue(field.is_plan(known, asked, plan))
            self.assertEqual(field.found(known, asked, plan, answers), answers[asked])
            if asked == "k":
                reader = field.least_reader(known, asked)
                self.assertTrue(field.is_reader(known, asked, reader))
                self.assertEqual(field.read(known, asked, reader, answers), answers[asked])
        field.words(known, answers, 8)
        self.assertLessEqual(len(field.shortest(known, answers)), 40)
        many = field.how_many(known, answers)
        self.assertTrue(many is None or many > 0)
        return plan is not None

    def test_plans_that_callers_make(self):
        rng = random.Random(921)
        field = Codes("abcd", {"c": drawn_code(rng, "abcd", 6, "0", 0, 3)}, {"k": drawn_class(rng, "abcd", 5, 0)})
        spots = [(f"s{one}", f"s{other}") for one in range(6) for other in range(5)]
        rows_made = [(rng.choice(spots), rng.choice(spots), rng.choice((("0" * rng.randint(0, 6), ""), (
            "", "0" * rng.randint(0, 6)))), ("", "")) for _ in range(1000)]
        with within(SECONDS):
            self.assertIs(field.is_plan(["c"], "k", rows_made), False)
            self.assertIs(field.is_plan(["c"], "k", field.plan(["c"], "k")), True)
            reader = [({(): 0}, {"0": (at + 1) % 40}) for at in range(40)]
            self.assertIs(field.is_reader(["c"], "k", reader), True)

    def test_many_questions(self):
        rng = random.Random(922)
        for _ in range(3):
            codes = {f"c{at}": drawn_code(rng, "abcd", 3 if at == 0 else 1, "01", 1, 1) for at in range(4)}
            classes = {f"k{at}": drawn_class(rng, "abcd", (5, 2, 1, 1)[at], 1) for at in range(4)}
            field = Codes("abcd", codes, classes)
            names = field.questions()
            with within(SECONDS):
                for asked in names:
                    for work in (engine.least_files, engine.secrets, engine.needed, engine.idle):
                        work(field, asked)
                engine.told_by(field, names[:4])
                hands.least_groups(field, {f"hand{at}": rng.sample(names, 2) for at in range(7)}, "k0")


class TestMachines(unittest.TestCase):
    def drawn(self, rng, letters, many, most):
        states = [f"s{place}" for place in range(many)]
        return (states[0], {state: (rng.randint(0, most), {letter: rng.choice(states) for letter in letters})
                            for state in states})

    def test_large(self):
        rng = random.Random(102)
        for sizes in ((6, 4, 1), (6, 2, 2), (4, 3, 2), (3, 2, 2, 2), (5, 4), (6, 4), (2, 2, 2, 3)):
            for most in (0, 1, 1, 2):
                letters = "abc"[:rng.randint(2, 3)]
                field = Machines(letters, {f"m{at}": self.drawn(rng, letters, many, most) for at, many in enumerate(sizes)})
                names = field.questions()
                with within(SECONDS):
                    for known, asked in ((names[:-1], names[-1]), (names, names[0]), (names[1:], names[0])):
                        self.look(field, known, asked)

    def look(self, field, known, asked):
        plan, pair = field.plan(known, asked), field.apart(known, asked)
        self.assertEqual(plan is None, pair is not None)
        if plan is None:
            self.assertTrue(field.are_apart(known, asked, pair))
        else:
            self.assertTrue(field.is_plan(known, asked, plan))
        lag = field.lag(known, asked)
        for n in (0, 1, 6):
            plan, pair = field.late_plan(known, asked, n), field.late_words(known, asked, n)
            self.assertEqual((plan is None, pair is not None), (lag is None or lag > n,) * 2)
            if plan is not None:
                self.assertTrue(field.is_late_plan(known, asked, n, plan))
        answers = field.answers("ab" * 29 + "a")
        many = field.many_words(known, answers)
        self.assertEqual(field.answers(field.nth_word(known, answers, many - 1))[known[0]], answers[known[0]])
        short = {name: told[:8] for name, told in answers.items()}
        self.assertIn(short[asked], field.may_say(known, short, asked))
        names = [f"s{at}" for at in range(60)]
        keys = ["".join(row) for row in product("012", repeat=len(known))]
        field.is_late_plan(known, asked, 6, ("s0", {name: {key: (None, names[at % 60]) for at, key in enumerate(keys)}
                                                    for name in names}))

    def test_many_questions(self):
        rng = random.Random(1021)
        for most in (0, 1, 1, 2):
            sizes = (2, 2, 2, 2, 2, 2, 1, 1, 1, 1, 1, 1, 1, 1, 1, 1)
            field = Machines("cab", {f"m{at}": self.drawn(rng, "cab", many, most) for at, many in enumerate(sizes)})
            names = field.questions()
            with within(SECONDS):
                for asked in (names[0], names[6]):
                    for work in (engine.least_files, engine.secrets, engine.needed, engine.idle):
                        work(field, asked, [name for name in names if name != asked][:9])
                engine.told_by(field, names[:3])
                for one in names:
                    field.least_reader(one)
                    for known in ([one], names[:6]):
                        pair = field.least_apart(known, names[1])
                        self.assertEqual(pair is None, field.is_told(known, names[1]))
                    field.unlike_word(names[0], one)


class TestMixesAndBundles(unittest.TestCase):
    def test_large(self):
        rng = random.Random(114)
        parts = {"partone1": large_table(rng, 4), "parttwo2": Sums(["x", "y"], {f"q{at}": (
            {"x": rng.randint(-9, 9), "y": rng.randint(-9, 9)}, 0) for at in range(4)}),
            "three": table_net(["a"], ["x"]), "four": Codes("ab", {"c": drawn_code(rng, "ab", 5, "01", 0, 2)},
                                                           {"k": drawn_class(rng, "ab", 6, 1)})}
        mix = Mix(parts)
        names = mix.questions()
        bundles = Bundles(mix, {f"b{at}": rng.sample(names, 4) for at in range(6)})
        for field in (mix, bundles, Mix({"m": mix, "b": bundles})):
            names = field.questions()
            with within(SECONDS):
                for asked in names[:6]:
                    for work in (engine.least_files, engine.secrets, engine.needed, engine.idle):
                        work(field, asked, [name for name in names if name != asked][:9])
                    known = rng.sample(names, 5)
                    plan, pair = field.plan(known, asked), field.apart(known, asked)
                    self.assertEqual(plan is None, pair is not None)
                    if plan is None:
                        self.assertTrue(field.are_apart(known, asked, pair))
                    else:
                        answers = field.answers(field.home())
                        self.assertEqual(field.found(known, asked, plan, answers), answers[asked])
                engine.told_by(field, names)


class TestTalks(unittest.TestCase):
    def fields(self, rng):
        bits = Table([{**{f"q{at}": number >> at & 1 for at in range(5)}, "s": bin(number).count("1") % 2}
                      for number in range(32)])
        drawn = Table([{name: rng.randrange(2) for name in ["s", "a", "b", "c", "d", "e"]} for _ in range(rng.randint(4, 60))])
        handed = shares.handed_out(7, ["a", "b", "c", "d", "e"], rng.randint(2, 5))
        machines = Machines("ab", {f"m{at}": TestMachines().drawn(rng, "ab", (2, 2, 2, 3, 1, 1)[at], 1) for at in range(6)})
        codes = Codes("ab", {"c": drawn_code(rng, "ab", 3, "01", 1, 2)}, {
            f"k{at}": drawn_class(rng, "ab", (5, 2, 1, 1, 1)[at], 1) for at in range(5)})
        mix = Mix({"m": Table(bits.only(["q0", "q1", "s"]).rows()), "n": machines.only(["m0", "m1", "m2"])})
        return [bits, drawn, handed, machines, codes, mix]

    def test_large(self):
        rng = random.Random(1141)
        for _ in range(12):
            for field in self.fields(rng):
                names = field.questions()
                held = {name: [] for name in HANDS}
                for name in names[:-1] if rng.random() < 0.5 else names[1:]:
                    held[rng.choice(HANDS)].append(name)
                wires = rng.sample(PAIRS, 6)
                with within(SECONDS):
                    self.look(rng, field, held, wires)

    def look(self, rng, field, held, wires):
        for asked in (field.questions()[0], field.questions()[-1]):
            for name in held:
                found, guard = talks.leak(field, held, wires, name, asked), talks.shield(field, held, wires, name, asked)
                self.assertEqual(found is None, guard is not None)
                if found is None:
                    self.assertTrue(talks.is_shield(field, held, wires, name, asked, guard))
                else:
                    self.assertTrue(talks.is_leak(field, held, wires, name, asked, found))
                cut = cuts.cuts(field, held, wires, name, asked)
                self.assertEqual(cut == [[]], found is None)
                cuts.ways(field, held, wires, name, asked)
                light = cuts.lightest_cut(field, held, wires, [rng.randint(1, 1000) for _ in wires], name, asked)
                self.assertEqual(light is None, cut == [])
        talks.talked(field, held, wires, [])

    def test_a_long_leak(self):
        # Each hand has a bit of its own, and the last one one more; the links go round.
        bits = Table([{**{f"q{at}": number >> at & 1 for at in range(5)}, "s": bin(number).count("1") % 2}
                      for number in range(32)])
        held = {"jo": ["q0", "q1"], "al": ["q2"], "kay": ["q3"], "bo": ["q4"]}
        ring = [("jo", "al"), ("al", "kay"), ("kay", "bo"), ("bo", "jo"), ("al", "jo"), ("kay", "al")]
        with within(SECONDS):
            for name in held:
                found = talks.leak(bits, held, ring, name, "s")
                self.assertTrue(talks.is_leak(bits, held, ring, name, "s", found))
                self.assertGreater(len(found), 3)


class TestTextsAndDesks(unittest.TestCase):
    def test_texts(self):
        rng = random.Random(1142)
        table = Table([{f"q{at}": rng.randint(-10 ** 5, 10 ** 5) for at in range(14)} for _ in range(60)])
        held = {f"hand{at}": [f"q{rng.randrange(10)}{to}" for to in range(20)] for at in range(60)}
        wires = [(f"hand{one}", f"hand{other}") for one in range(18) for other in range(18) if one != other]
        for write, read, thing in ((texts.write_table, texts.read_table, table), (texts.write_hands, texts.read_hands, held),
                                   (texts.write_links, texts.read_links, wires)):
            with within(SECONDS):
                text = write(thing)
                self.assertGreater(len(text), 5000)
                self.assertEqual(read(text), thing)

    def test_desks(self):
        rng = random.Random(1143)
        for most in (2, 3, 1000):
            table = large_table(rng, 10, most=most)
            desk = Desk()
            things = {"t": table, "h": {name: rng.sample(table.questions()[:6], 2) for name in HANDS},
                      "l": rng.sample(PAIRS, 6)}
            with within(SECONDS):
                for name in things:
                    desk.keep(name, things[name])
                desk.told("only u t " + " ".join(table.questions()[:6]))
                for at in range(26):
                    desk.told(f"give h{at} h jo question{at % 6}" if at % 2 else f"join j{at} u u")
                for asked in table.questions()[:6]:
                    for line in (f"least t {asked}", f"secrets t {asked}", f"told t {asked} question5 question4",
                                 f"knows t h {asked} jo al", f"leak u h l jo {asked}", f"cuts u h l kay {asked}", "reach u h l bo"):
                        desk.told(line)
                twin = replayed(desk.log(), things)
                self.assertEqual([twin.told(f"text {name}") for name in twin.names()],
                                 [desk.told(f"text {name}") for name in desk.names()])
                self.assertEqual(len(desk.log()), 30)
                while desk.undo():
                    desk.copy().again()
                self.assertEqual(desk.names(), [])


if __name__ == "__main__":
    unittest.main()
