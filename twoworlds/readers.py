"""Readers of what words show to codes, which end with tables of marks."""

from twoworlds.alikes import first_alike
from twoworlds.checks import is_count, is_integer, is_list, is_pair, is_string_of
from twoworlds.coders import SHOWN_SIGNS


def is_reader_for(crew, thing):
    """Whether any object is a reader that tells the asked class of all words."""
    if not is_list(thing) or len(thing) == 0 or not all([_is_pair_of(crew, len(thing), pair) for pair in thing]):
        return False
    seen, todo = {}, [(0, 0)]
    while len(todo) > 0:
        number, index = todo.pop()
        if (number, index) not in seen:
            seen[(number, index)] = True
            if thing[index][0].get(crew.marks(number)) != crew.asked_marks(number)[0]:
                return False
            for after, shown, _ in crew.moves(number):
                led = led_on(thing, index, crew.symbols(shown))
                if led is None:
                    return False
                todo.append((after, led))
    return True


def led_on(reader, index, symbols):
    """The index to which symbols lead, or None."""
    for symbol in symbols:
        if symbol not in reader[index][1]:
            return None
        index = reader[index][1][symbol]
    return index


def least_reader_for(crew):
    """The reader of the fewest pairs that tells the asked class, which is told."""
    tables, steps = _beginnings(crew, _merged(crew))
    keys = [(tuple(list(table.items())), tuple(list(step))) for table, step in zip(tables, steps)]
    nexts = [[step[symbol] for symbol in step] for step in steps]
    firsts = first_alike(keys, nexts)
    numbers, met, at = {0: 0}, [0], 0
    while at < len(met):
        last = met[at]
        for after in nexts[last]:
            if firsts[after] not in numbers:
                numbers[firsts[after]] = len(met)
                met.append(firsts[after])
        at += 1
    return [(tables[node], {symbol: numbers[firsts[steps[node][symbol]]] for symbol in steps[node]}) for node in met]


def _merged(crew):
    """A list of triples (marks, asked mark, moves) of the spots of words, of which alike ones are one; a move is
    a pair of the number of the triple to which a letter leads and of what is shown."""
    moves, todo = {}, [0]
    while len(todo) > 0:
        number = todo.pop()
        if number not in moves:
            moves[number] = [(after, shown) for after, shown, _ in crew.moves(number)]
            todo.extend([after for after, _ in moves[number]])
    # All spots that have numbers are those of words.
    numbers = sorted(moves)
    keys = [(crew.marks(number), crew.asked_marks(number), tuple([shown for _, shown in moves[number]]))
            for number in numbers]
    firsts = first_alike(keys, [[after for after, _ in moves[number]] for number in numbers])
    return [(keys[number][0], keys[number][1][0], [(firsts[after], shown) for after, shown in moves[number]])
            for number in numbers]


def _beginnings(crew, merged):
    """Lists of the tables and of the steps of all groups in which words can be that show so far the same.

    A group is an ascending tuple of pairs (number, rest): some word ends at the triple with this number if the
    rest, which it shows beyond what was read, is empty.
    """
    groups, at = [_grown(merged, [(0, "")])], 0
    numbers, tables, steps = {groups[0]: 0}, [], []
    while at < len(groups):
        group = groups[at]
        table = {merged[number][0]: merged[number][1] for number, rest in group if rest == ""}
        tables.append({marks: table[marks] for marks in sorted(table)})
        steps.append({})
        symbols = sorted({crew.symbols(rest)[0] for _, rest in group if rest != ""})
        for symbol in symbols:
            after = _grown(merged, [(number, rest[len(symbol):]) for number, rest in group if rest.startswith(symbol)])
            if after not in numbers:
                numbers[after] = len(groups)
                groups.append(after)
            steps[at][symbol] = numbers[after]
        at += 1
    return (tables, steps)


def _grown(merged, pairs):
    """The group of some pairs, and of all to which letters lead from where nothing is left to be read."""
    seen, todo = {}, list(pairs)
    while len(todo) > 0:
        pair = todo.pop()
        if pair not in seen:
            seen[pair] = True
            if pair[1] == "":
                todo.extend(merged[pair[0]][2])
    return tuple(sorted(seen))


def _is_pair_of(crew, many, thing):
    """Whether any object is a pair of a table and of steps to so many indexes."""
    if not is_pair(thing) or not isinstance(thing[0], dict) or not isinstance(thing[1], dict):
        return False
    table, steps = thing
    if not all([_are_marks(crew, marks) and is_integer(table[marks]) for marks in table]):
        return False
    return all([_is_symbol(crew, symbol) and is_count(steps[symbol]) and steps[symbol] < many for symbol in steps])


def _are_marks(crew, thing):
    """Whether it is a tuple of integers, one for each known class."""
    return isinstance(thing, tuple) and len(thing) == crew.many_classes() and all([is_integer(mark) for mark in thing])


def _is_symbol(crew, thing):
    """Whether it is a string of signs, one for each known code, if there is one."""
    return crew.many_codes() > 0 and is_string_of(SHOWN_SIGNS, thing) and len(thing) == crew.many_codes()
