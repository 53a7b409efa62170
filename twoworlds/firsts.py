"""The first state of a box, told by letters that are put in one after the other.

A SITUATION is the sorted tuple of the pairs (mark, now) that are left: the mark of the
first state, and the state in which the box is by now. It is LOST, and None, if one now
has unlike marks: nothing parts these any more.
"""

from twoworlds.boxes import are_marks, moves_of
from twoworlds.checks import has_just, is_integer, is_list, is_one_of, is_pair
from twoworlds.errors import BadMarks
from twoworlds.quests import first_row_to


def first_tree(box, marks):
    """A tree of the least depth that tells the mark of the first state, or None."""
    _check_marks(box, marks)
    begin = _situation(marks, _begins(box))
    told = _told_ones(box, [begin])
    return _tree(moves_of(box), told, begin) if begin in told else None


def is_first_tree(box, marks, thing):
    """Whether any object is a tree that tells the mark of the first state."""
    _check_marks(box, marks)
    moves = moves_of(box)
    todo = [(thing, _begins(box))]
    while len(todo) > 0:
        tree, traces = todo.pop()
        if is_integer(tree):
            if not all([marks[first] == tree for first, _ in traces]):
                return False
        elif not is_pair(tree) or not is_one_of(box.letters(), tree[0]):
            return False
        else:
            parts = _parts(moves, traces, tree[0])
            if not has_just(tree[1], parts):
                return False
            todo.extend([(tree[1][sign], parts[sign]) for sign in parts])
    return True


def first_row(box, marks):
    """The first row by which what comes out tells the mark of the first state, or None."""
    # Where no tree tells it no row does, and then all rows need not be gone through.
    if first_tree(box, marks) is None:
        return None
    moves = moves_of(box)

    def follow(situations, letter):
        after = []
        for before in situations:
            after.extend(list(_after(moves, before, letter).values()))
        if None in after:
            return None
        return tuple(sorted({one for one in after if not _has_one_mark(one)}))
    begin = _situation(marks, _begins(box))
    return first_row_to(() if _has_one_mark(begin) else (begin,), box.letters(), follow, lambda left: len(left) == 0)


def hard_list(box, marks):
    """A list of trace lists that no letter parts, or None."""
    _check_marks(box, marks)
    moves, begins = moves_of(box), _begins(box)
    # What is left of some traces is told by itself, so all lists of some of the begins are looked through.
    told = _told_ones(box, [_situation(marks, some) for some in _parts_of(begins)])
    if not _is_hard(marks, told, begins):
        return None
    hard = [_least_hard(marks, told, begins)]
    seen = {tuple(hard[0]): True}
    at = 0
    while at < len(hard):
        for letter in box.letters():
            parts = _parts(moves, hard[at], letter)
            still = [parts[sign] for sign in parts if _is_hard(marks, told, parts[sign])]
            least = _least_hard(marks, told, still[0])
            if tuple(least) not in seen:
                seen[tuple(least)] = True
                hard.append(least)
        at += 1
    return hard


def is_hard_list(box, marks, thing):
    """Whether any object is a list of trace lists that no letter parts."""
    _check_marks(box, marks)
    if not is_list(thing) or len(thing) == 0:
        return False
    if not all([_are_traces(box, marks, traces) for traces in thing]):
        return False
    if not all([first == now for first, now in thing[0]]):
        return False
    moves = moves_of(box)
    lists = [[(first, now) for first, now in traces] for traces in thing]
    return all([_is_left(lists, _parts(moves, traces, letter)) for traces in lists for letter in box.letters()])


def _check_marks(box, marks):
    """BadMarks, if they are no dict from just all states to integers."""
    if not are_marks(box.states(), marks):
        raise BadMarks(marks)


def _begins(box):
    """The traces ahead of any letter."""
    return [(state, state) for state in box.states()]


def _parts_of(traces):
    """All lists of some traces."""
    out = [[]]
    for trace in traces:
        out = [*out, *[[*some, trace] for some in out]]
    return out


def _parts(moves, traces, letter):
    """The dict from the signs that come out by a letter to the traces, or pairs (mark, now), that are left then."""
    parts = {}
    for first, now in traces:
        sign, after = moves[now][letter]
        parts[sign] = [*parts.get(sign, []), (first, after)]
    return parts


def _settled(pairs):
    """The situation of pairs (mark, now)."""
    marks = {}
    for mark, now in pairs:
        if marks.setdefault(now, mark) != mark:
            return None
    return tuple(sorted([(marks[now], now) for now in marks]))


def _situation(marks, traces):
    """The situation of traces."""
    return _settled([(marks[first], now) for first, now in traces])


def _after(moves, situation, letter):
    """The dict from the signs that come out by a letter to the situations then."""
    parts = _parts(moves, situation, letter)
    return {sign: _settled(parts[sign]) for sign in parts}


def _has_one_mark(situation):
    """Whether all pairs of a situation, which is not lost, have the same mark."""
    return all([mark == situation[0][0] for mark, _ in situation])


def _followed(box, begins):
    """The dict from all situations to which letters lead to dicts from letters to lists of those that come next."""
    moves, letters = moves_of(box), box.letters()
    nexts = {}
    todo = list(begins)
    while len(todo) > 0:
        one = todo.pop()
        if one is not None and one not in nexts:
            nexts[one] = {}
            if not _has_one_mark(one):
                nexts[one] = {letter: list(_after(moves, one, letter).values()) for letter in letters}
            for letter in nexts[one]:
                todo.extend(nexts[one][letter])
    return nexts


def _told_ones(box, begins):
    """The dict from the situations in which a tree tells the mark to the first letter of one of the least depth,
    None where no letter is needed."""
    nexts = _followed(box, begins)
    told = {one: None for one in nexts if _has_one_mark(one)}
    left = [one for one in nexts if one not in told]
    while True:
        good = {one: [letter for letter in nexts[one] if all([part in told for part in nexts[one][letter]])]
                for one in left}
        left = [one for one in good if len(good[one]) == 0]
        if len(left) == len(good):
            return told
        for one in good:
            if len(good[one]) > 0:
                told[one] = good[one][0]


def _tree(moves, told, situation):
    """The tree by the letters of the situations that can be told."""
    letter = told[situation]
    if letter is None:
        return situation[0][0]
    parts = _after(moves, situation, letter)
    return (letter, {sign: _tree(moves, told, parts[sign]) for sign in parts})


def _is_hard(marks, told, traces):
    """Whether no tree tells the mark of the first state among some traces."""
    situation = _situation(marks, traces)
    return situation is None or not _has_one_mark(situation) and situation not in told


def _least_hard(marks, told, traces):
    """Some of the traces, as many as are needed to be hard."""
    left = list(traces)
    for trace in traces:
        others = [other for other in left if other != trace]
        if _is_hard(marks, told, others):
            left = others
    return left


def _are_traces(box, marks, thing):
    """Whether any object is a list of unlike traces, two of whose firsts have unlike marks."""
    if not is_list(thing) or not all([is_pair(trace) for trace in thing]):
        return False
    if not all([is_one_of(box.states(), state) for trace in thing for state in trace]):
        return False
    if len({(first, now) for first, now in thing}) < len(thing):
        return False
    return len({marks[first] for first, _ in thing}) > 1


def _is_left(lists, parts):
    """Whether what is left for some sign has all traces of one of the lists."""
    for sign in parts:
        inside = {trace: True for trace in parts[sign]}
        for traces in lists:
            if all([trace in inside for trace in traces]):
                return True
    return False
