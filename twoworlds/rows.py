"""What is asked of rows of people: ways between them, who can stand where, and their numbers."""

from twoworlds.checks import check_asked, first_bad, is_count, is_list, is_one_of, is_pair
from twoworlds.errors import BadFacts, BadNumber, BadPeople, BadWorld, NoPerson, SamePerson
from twoworlds.orders import swaps
from twoworlds.seating import changed, fixed_by, is_row, place_of, seated, seated_by, ways_left


def way(seats, row, other):
    """A list of pairs of people who change their places, by which a row becomes another one."""
    _check_rows(seats, row, other)
    windows = seats.windows()
    rows, changes = [list(row), list(other)], [[], []]
    for place in range(len(windows)):
        here = [rows[0][place], rows[1][place]]
        if here[0] != here[1]:
            # Who stands here in the one row and need not come first can stand where the other one does.
            side = 0 if windows[here[0]][1] >= windows[here[1]][1] else 1
            rows[side] = changed(rows[side], here)
            changes[side].append(tuple([name for name in windows if name in here]))
    return changes[0] + changes[1][::-1]


def is_way(seats, row, other, thing):
    """Whether any object is a list of pairs of people by each of which a row becomes one, and at last the other."""
    _check_rows(seats, row, other)
    windows, now = seats.windows(), list(row)
    if not is_list(thing):
        return False
    for pair in thing:
        if not is_pair(pair) or not all([is_one_of(windows, name) for name in pair]) or pair[0] == pair[1]:
            return False
        now = changed(now, pair)
        if not is_row(windows, now):
            return False
    return now == list(other)


def can_be(seats, facts, asked):
    """The ascending list of the answers to asked in all rows that have facts."""
    _check_some_row(seats, facts)
    check_asked(seats.questions(), asked)
    windows = seats.windows()
    answers = list(range(len(windows))) if place_of(asked) is None else sorted(windows)
    if asked in facts:
        return [facts[asked]]
    return [answer for answer in answers if seated_by(windows, {**facts, asked: answer}) is not None]


def row_with(seats, facts):
    """A row that has facts."""
    _check_some_row(seats, facts)
    return seated_by(seats.windows(), facts)


def stands(seats, name):
    """The ascending list of all places at which one of people stands in some row."""
    windows = seats.windows()
    _check_person(windows, name)
    return [place for place in range(windows[name][0], windows[name][1] + 1)
            if seated(windows, {name: place}) is not None]


def earliest(seats, names):
    """The row in which the first of some people stands as early as it can, then the second, and so on."""
    windows = seats.windows()
    index = first_bad(windows, names)
    if index is not None:
        raise BadPeople(index)
    fixed = {}
    for name in [*names, *[name for name in windows if name not in names]]:
        first, last = windows[name]
        taken = [fixed[other] for other in fixed]
        places = [place for place in range(first, last + 1) if place not in taken]
        fixed[name] = [place for place in places if seated(windows, {**fixed, name: place}) is not None][0]
    return seated(windows, fixed)


def orders(seats, one, other):
    """The ascending list of truths that tell whether one stands ahead of the other in some row."""
    windows = seats.windows()
    _check_person(windows, one)
    _check_person(windows, other)
    if one == other:
        raise SamePerson(one)
    truths = {}
    for place in stands(seats, one):
        for later in stands(seats, other):
            if place != later and seated(windows, {one: place, other: later}) is not None:
                truths[place < later] = True
    return sorted(truths)


def tied(seats):
    """The lists of asked people who come from one to another by swaps."""
    leaders = {name: name for name in seats.windows()}
    for one, other, _, _ in swaps(seats):
        kept, left = leaders[one], leaders[other]
        leaders = {name: kept if leaders[name] == left else leaders[name] for name in leaders}
    people = [question for question in seats.questions() if place_of(question) is None]
    lists = {}
    for name in people:
        lists[leaders[name]] = [*lists.get(leaders[name], []), name]
    return [lists[leader] for leader in lists]


def many_rows(seats, facts):
    """How many rows have facts."""
    _check_facts(seats, facts)
    fixed = fixed_by(seats.windows(), facts)
    return 0 if fixed is None else ways_left(seats.windows(), fixed)[0]


def number_of(seats, row):
    """The number of a row."""
    windows = seats.windows()
    if not is_row(windows, row):
        raise BadWorld(row)
    ways = ways_left(windows, {})
    number, taken = 0, 0
    for name in windows:
        stand = list(row).index(name)
        number += sum([ways[taken | 1 << place] for place in _free(windows[name], taken) if place < stand])
        taken = taken | 1 << stand
    return number


def row_at(seats, number):
    """The row with a number."""
    windows = seats.windows()
    ways = ways_left(windows, {})
    if not is_count(number) or number >= ways[0]:
        raise BadNumber(number)
    fixed, taken = {}, 0
    for name in windows:
        for place in _free(windows[name], taken):
            behind = ways[taken | 1 << place]
            if number < behind:
                fixed[name] = place
                break
            number -= behind
        taken = taken | 1 << fixed[name]
    return seated(windows, fixed)


def _free(window, taken):
    """The places of a window that are not among the bits of those taken."""
    return [place for place in range(window[0], window[1] + 1) if not taken >> place & 1]


def _check_rows(seats, row, other):
    """BadWorld, if one of two is no row."""
    for thing in (row, other):
        if not is_row(seats.windows(), thing):
            raise BadWorld(thing)


def _check_person(windows, name):
    """NoPerson, if it is none of people."""
    if not is_one_of(windows, name):
        raise NoPerson(name)


def _check_facts(seats, facts):
    """BadFacts, if facts are no dict from questions."""
    if not isinstance(facts, dict) or not all([is_one_of(seats.questions(), question) for question in facts]):
        raise BadFacts(facts)


def _check_some_row(seats, facts):
    """BadFacts, if they are no dict from questions, or no row has them."""
    _check_facts(seats, facts)
    if seated_by(seats.windows(), facts) is None:
        raise BadFacts(facts)
