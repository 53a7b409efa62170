"""What the tests share: any objects, drawn fields, and a time limit."""

import signal
from contextlib import contextmanager
from itertools import combinations, permutations, product

from twoworlds.boxes import Box
from twoworlds.bundles import Bundles
from twoworlds.codes import Codes
from twoworlds.desks import Desk
from twoworlds.files import File
from twoworlds.machines import Machines
from twoworlds.mixes import Mix
from twoworlds.nets import Net
from twoworlds.orders import Seats
from twoworlds.pieces import Pieces
from twoworlds.shares import Shares
from twoworlds.sums import Sums
from twoworlds.tables import Table
from twoworlds.views import View


def any_objects():
    """Objects of all kinds, new ones each time."""
    table = Table([{"a": 1}])
    return [
        None, True, False, 0, 1, -1, 2, 10 ** 14, "", "a", "b", "zz", "A", "a b", "abc", (), [], {}, (1,), [1], (1, 2),
        [0, 1], ["a"], ("a", "b"), ["a", "a"], ["a", 1], ["a", None], [["a"]], [{}], [{}, {}], ({}, {}), {"a": 1},
        {"a": True}, {"a": None}, {"a": "b"}, {"a": ["a"]}, {"a": (1, 2)}, {"a": (1, 0)}, {1: 1}, {True: 1}, {None: 1},
        {(): 0}, {(1,): 1}, {("a",): 1}, {(True,): 1}, {(1, 2): True}, {"": 1}, {"a": {}}, {"a": {"a": 1}},
        ("a", {}), ["a", {0: 0}], ("a", {0: {}}), [("a", 1)], [[[[]]]], table, [table], {"a": table}, (table, table),
        View(table, {"v": "a"}), File(table), Sums(["x"], {"a": ({"x": 1}, 0)}), Shares(2, ["x"], {"a": {"x": 1}}),
        Net({"a": ("b", "b")}), Pieces("a", ["a"]), Box({"a": {"a": ("a", "a")}}, {"a": []}), Seats({"a": (0, 0)}),
        Codes("a", {"a": {"a": {"a": ("a", "a")}}}, {}), Machines("a", {"a": ("a", {"a": (0, {"a": "a"})})}),
        Mix({"a": table}), Bundles(table, {"a": ["a"]}), Desk(),
    ]


def not_integers():
    """Objects that are no integers from 0 on."""
    return [thing for thing in any_objects() if type(thing) is not int or thing < 0]


def caught(error, work, *rest, **more):
    """The error that a call raises, which is of just this class; None if it raises none."""
    try:
        work(*rest, **more)
    except error as e:
        assert type(e) is error, e
        return e
    return None


def subsets(names):
    """All lists of some names, in their order, shorter ones first."""
    return [list(some) for many in range(len(names) + 1) for some in combinations(names, many)]


def drawn_table(rng, most_rows=8, most_questions=5, most_answer=2):
    """A small table, rows in drawn orders of their keys."""
    names = ["b", "a", "d", "c", "e", "f"][:rng.randint(1, most_questions)]
    rows = []
    for _ in range(rng.randint(1, most_rows)):
        order = rng.sample(names, len(names))
        rows.append({name: rng.randint(-1, most_answer - 1) for name in order})
    return Table([{name: rows[0][name] for name in names}, *rows[1:]])


def drawn_names(rng, names):
    """Some of the names, in a drawn order."""
    return rng.sample(names, rng.randint(0, len(names)))


def drawn_sums(rng, most_unknowns=4, most_questions=6, most=5, moduli=(0, 0, 2, 3, 4, 6, 9)):
    """A small field of sums, rows with unknowns in a drawn order, zeros among them."""
    unknowns = ["y", "x", "z", "w", "v", "u"][:rng.randint(1, most_unknowns)]
    questions = {}
    for place in range(rng.randint(1, most_questions)):
        some = drawn_names(rng, unknowns)
        questions[f"q{place}"] = ({name: rng.randint(-most, most) for name in some}, rng.choice(moduli))
    return Sums(unknowns, questions)


def drawn_world(rng, sums, most=30):
    """A world of sums."""
    return {name: rng.randint(-most, most) for name in sums.unknowns()}


def drawn_net(rng, most_nodes=4, most_arcs=6):
    """A small net, loops, dead arcs and several arcs between the same nodes among them."""
    nodes = ["p", "a", "q", "r", "s"][:rng.randint(1, most_nodes)]
    names = ["b", "a", "d", "c", "e", "f", "g", "h"][:rng.randint(1, most_arcs)]
    return Net({name: (rng.choice(nodes), rng.choice(nodes)) for name in names})


def drawn_flow(rng, net, most=4):
    """A world of a net: rings of its arcs, each gone some times."""
    arcs, world = net.arcs(), net.home()
    for _ in range(rng.randint(0, 5)):
        node, way = rng.choice(net.nodes()), []
        for _ in range(12):
            onward = [name for name in arcs if arcs[name][0] == node]
            if not onward:
                break
            way.append(rng.choice(onward))
            node = arcs[way[-1]][1]
            for back in range(len(way)):
                if arcs[way[back]][0] == node:
                    times = rng.randint(1, most)
                    for name in way[back:]:
                        world[name] += times
                    way = way[:back]
                    break
    return world


def small_flows(net, most):
    """All worlds of a net with answers of at most so much."""
    arcs, names = net.arcs(), net.questions()
    return [dict(zip(names, row)) for row in product(range(most + 1), repeat=len(names))
            if all(sum(n for name, n in zip(names, row) if arcs[name][0] == node)
                   == sum(n for name, n in zip(names, row) if arcs[name][1] == node) for node in net.nodes())]


def drawn_moves(rng, most_states=4, most_letters=2, signs=("u", "v")):
    """The moves of a small box, letters in drawn orders; often all but one state have one sign, or none merge."""
    states = rng.sample(["q", "p", "r", "t", "s", "w"], rng.randint(1, most_states))
    letters = ["y", "x", "z"][:rng.randint(1, most_letters)]
    moves = {state: {} for state in states}
    for letter in letters:
        ends = rng.sample(states, len(states)) if rng.random() < 0.6 else [rng.choice(states) for _ in states]
        few = rng.random() < 0.7
        for state, end in zip(states, ends):
            sign = signs[0] if few and state != states[-1] else rng.choice(signs)
            moves[state][letter] = (sign, end)
    return {state: {letter: moves[state][letter] for letter in (letters if state == states[0] else rng.sample(
        letters, len(letters)))} for state in states}


def drawn_box(rng, most_states=4, most_letters=2, signs=("u", "v"), most_questions=4):
    """A small box with rows and marked rows as its questions."""
    moves = drawn_moves(rng, most_states, most_letters, signs)
    letters = list(moves[list(moves)[0]])
    questions = {}
    for place in range(rng.randint(1, most_questions)):
        row = [rng.choice(letters) for _ in range(rng.randint(0, 3))]
        marks = {state: rng.randint(-1, 1) for state in rng.sample(list(moves), len(moves))}
        questions[f"q{place}"] = rng.choice((row, tuple(row), (row, marks), [tuple(row), marks]))
    return Box(moves, questions)


def all_rows(letters, longest):
    """All rows of at most so many letters, by their order."""
    return [list(row) for many in range(longest + 1) for row in product(letters, repeat=many)]


def drawn_windows(rng, most_people=5):
    """Windows of some people, for which there may be no row."""
    people = rng.sample(["jo", "al", "kay", "bo", "di", "ed", "flo"], rng.randint(1, most_people))
    n = len(people)
    return {name: tuple(sorted((rng.randrange(n), rng.randrange(n)))) for name in people}


def drawn_seats(rng, most_people=5):
    """A field of rows of people: windows around the places of a drawn row, some people and places asked about."""
    people = rng.sample(["jo", "al", "kay", "bo", "di", "ed", "flo"], rng.randint(1, most_people))
    n, far = len(people), rng.randint(0, 3)
    windows = {}
    for place in rng.sample(range(n), n):
        windows[people[place]] = (max(0, place - rng.randint(0, far)), min(n - 1, place + rng.randint(0, far)))
    asked = rng.choice((None, rng.sample(people, rng.randint(1, n))))
    return Seats(windows, asked, rng.choice((None, rng.sample(range(n), rng.randint(0, n)))))


def all_seated(windows):
    """All rows, by the numbers of the places of people."""
    people = list(windows)
    rows = []
    for places in permutations(range(len(people))):
        if all(windows[name][0] <= place <= windows[name][1] for name, place in zip(people, places)):
            rows.append([people[places.index(place)] for place in range(len(people))])
    return rows


def drawn_code(rng, letters, most_states=3, signs="01", most=2, least=0):
    """A small code, letters in drawn orders."""
    states = rng.sample(["s", "r", "t", "q", "p", "o"], rng.randint(1, most_states))
    return {state: {letter: (rng.choice(states), "".join(rng.choice(signs) for _ in range(rng.randint(least, most))))
                    for letter in rng.sample(letters, len(letters))} for state in states}


def drawn_class(rng, letters, most_states=3, most_mark=1):
    """A small class, letters in drawn orders."""
    states = rng.sample(["s", "r", "t", "q", "p", "o"], rng.randint(1, most_states))
    return {state: (rng.randint(0, most_mark), {letter: rng.choice(states) for letter in rng.sample(
        letters, len(letters))}) for state in states}


def drawn_codes(rng, most_letters=2, most_codes=2, most_classes=2, most_states=3):
    """A small field of codes and classes; several codes are even ones."""
    letters = "bac"[:rng.randint(1, most_letters)]
    many, classes = rng.randint(0, most_codes), rng.randint(0, most_classes)
    if many + classes == 0:
        classes = 1
    least, most = rng.choice(((0, 2), (1, 2), (1, 1), (0, 1), (0, 3))) if many == 1 else (1, 1)
    signs = rng.choice(("0", "01", "0a1"))
    return Codes(letters, {f"c{place}": drawn_code(rng, letters, most_states, signs, most, least)
                           for place in range(many)},
                 {f"k{place}": drawn_class(rng, letters, most_states, rng.randint(0, 2)) for place in range(classes)})


def drawn_reader(rng, letters, most_states=3, most_digit=1):
    """A small reader, letters in drawn orders; it may begin in any state."""
    states = rng.sample(["s", "r", "t", "q", "p", "o"], rng.randint(1, most_states))
    return (rng.choice(states), {state: (rng.randint(0, most_digit), {
        letter: rng.choice(states) for letter in rng.sample(letters, len(letters))}) for state in states})


def drawn_machines(rng, most_letters=2, most_readers=3, most_states=3):
    """A small field of readers."""
    letters = "bac"[:rng.randint(1, most_letters)]
    return Machines(letters, {f"m{place}": drawn_reader(rng, letters, most_states, rng.choice((1, 1, 2)))
                              for place in range(rng.randint(1, most_readers))})


def all_words(letters, longest):
    """All words of at most so many letters, shorter ones first, then in the order of the letters."""
    return ["".join(row) for many in range(longest + 1) for row in product(letters, repeat=many)]


def drawn_pieces(rng):
    """A small field of pieces of rings."""
    words = [word for word in all_words("ab", 2) if word]
    return Pieces("ab", rng.sample(words, rng.randint(1, 5)))


def drawn_shares(rng):
    """A small field of shares."""
    unknowns = ["x", "y", "z"][:rng.randint(1, 3)]
    return Shares(rng.choice((2, 3, 5)), unknowns, {f"q{place}": {name: rng.randint(-3, 3) for name in drawn_names(
        rng, unknowns)} for place in range(rng.randint(1, 5))})


def drawn_view(rng, field):
    """A view of a field, in which several names may stand for one question."""
    return View(field, {f"v{place}": rng.choice(field.questions()) for place in range(rng.randint(1, 5))})


def drawn_mix(rng, deep=1):
    """A mix of up to three fields of any kinds."""
    return Mix({name: drawn_field(rng, deep) for name in rng.sample(["m", "k", "l", "j"], rng.randint(1, 3))})


def drawn_bundles(rng, field):
    """Bundles of one to three questions of a field."""
    questions = field.questions()
    return Bundles(field, {f"b{place}": rng.sample(questions, rng.randint(1, min(3, len(questions))))
                           for place in range(rng.randint(1, 4))})


DRAWS = {"table": drawn_table, "sums": drawn_sums, "shares": drawn_shares, "net": drawn_net, "pieces": drawn_pieces,
         "box": drawn_box, "seats": drawn_seats, "codes": drawn_codes, "machines": drawn_machines}


def drawn_field(rng, deep=1):
    """A small field of any kind; where it may be deep, also a view, a mix or bundles of others."""
    kind = rng.randrange(4) if deep else 3
    if kind == 0:
        return drawn_view(rng, drawn_field(rng, deep - 1))
    if kind == 1:
        return drawn_mix(rng, deep - 1)
    if kind == 2:
        return drawn_bundles(rng, drawn_field(rng, deep - 1))
    return DRAWS[rng.choice(list(DRAWS))](rng)


def some_worlds(rng, field, many=6):
    """Some worlds of a field of any kind; home may stand among them several times."""
    if isinstance(field, View):
        return some_worlds(rng, field._field, many)
    if isinstance(field, Bundles):
        return some_worlds(rng, field._field, many)
    if isinstance(field, Mix):
        parts = {name: some_worlds(rng, part, many) for name, part in field.parts().items()}
        return [{name: rng.choice(parts[name]) for name in parts} for _ in range(many)]
    if isinstance(field, Table):
        return [rng.choice(field.rows()) for _ in range(many)]
    if isinstance(field, Sums):
        return [drawn_world(rng, field) for _ in range(many)]
    if isinstance(field, Shares):
        return [{name: rng.randrange(field.prime) for name in field.unknowns()} for _ in range(many)]
    if isinstance(field, Net):
        return [drawn_flow(rng, field) for _ in range(many)]
    if isinstance(field, Pieces):
        return ["".join(rng.choice(field.letters()) for _ in range(rng.randint(1, 8))) for _ in range(many)]
    if isinstance(field, Box):
        return [rng.choice(field.states()) for _ in range(many)]
    if isinstance(field, Seats):
        rows = all_seated(field.windows())
        return [rng.choice(rows) for _ in range(many)]
    return ["".join(rng.choice(field.letters()) for _ in range(rng.randint(0, 8))) for _ in range(many)]


def sum_of(sums, name, world):
    """The sum of a question in a world, by the plain rule."""
    row = sums.row(name)[0]
    return sum(row[unknown] * world[unknown] for unknown in row)


def plainly_told(rows, known, asked):
    """Whether any two rows that agree in known agree in asked."""
    seen = {}
    return all(seen.setdefault(tuple(row[name] for name in known), row[asked]) == row[asked] for row in rows)


@contextmanager
def within(seconds):
    """Fails if what is done takes longer."""
    def stop(number, frame):
        raise AssertionError(f"longer than {seconds} seconds")
    before = signal.signal(signal.SIGALRM, stop)
    signal.setitimer(signal.ITIMER_REAL, seconds)
    try:
        yield
    finally:
        signal.setitimer(signal.ITIMER_REAL, 0)
        signal.signal(signal.SIGALRM, before)
