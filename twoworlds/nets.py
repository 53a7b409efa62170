"""Nets with hidden parts: what leads to a node leads out of it."""

from twoworlds.checks import check_both, check_counts, first_bad, has_just, is_count, is_list, is_name
from twoworlds.checks import is_pair, is_parted
from twoworlds.errors import BadArc, BadNames, BadPlan, BadWorld
from twoworlds.walks import either_way, inward, is_joined, onward, reached, ring_through, shifted, way_to

ALL = "all"
SUMS = "sums"


class Net:
    """A field whose worlds are all balanced ways to have integers from 0 on at the arcs."""

    def __init__(self, arcs):
        if not isinstance(arcs, dict) or len(arcs) == 0:
            raise BadArc(None)
        for name in arcs:
            if not is_name(name) or not _is_arc(arcs[name]):
                raise BadArc(name)
        self._arcs = {name: (arcs[name][0], arcs[name][1]) for name in arcs}
        self._nodes = _nodes_of(self._arcs)
        self._live = [name for name in self._arcs if self._is_live(name)]

    def __eq__(self, other):
        if not isinstance(other, Net):
            return False
        return list(self._arcs.items()) == list(other._arcs.items())

    def questions(self):
        """The arcs, in order."""
        return list(self._arcs)

    def home(self):
        """The world in which all arcs are 0."""
        return {name: 0 for name in self._arcs}

    def answers(self, world):
        """All answers in a world."""
        if not self._is_world(world):
            raise BadWorld(world)
        return {name: world[name] for name in self._arcs}

    def is_told(self, known, asked):
        """Whether known tells asked."""
        check_both(self._arcs, known, asked)
        return self._is_given(known, asked) or not is_joined(self._arcs, self._others(known, asked), asked)

    def plan(self, known, asked):
        """A side by which the asked arc is found, [] for one that is known or dead, or None."""
        if not self.is_told(known, asked):
            return None
        if self._is_given(known, asked):
            return []
        side = reached(either_way(self._arcs, self._others(known, asked)), self._arcs[asked][1])
        return [node for node in self._nodes if node in side]

    def is_plan(self, known, asked, thing):
        """Whether any object is such a side, or an empty list where one is due."""
        check_both(self._arcs, known, asked)
        if first_bad(self._nodes, thing) is not None:
            return False
        if self._is_given(known, asked):
            return len(thing) == 0
        if not self._is_cut(asked, thing):
            return False
        return not any([self._is_cut(name, thing) for name in self._others(known, asked)])

    def found(self, known, asked, plan, answers):
        """What the asked arc must be, by answers to known."""
        if not self.is_plan(known, asked, plan):
            raise BadPlan(plan)
        check_counts(known, answers)
        if asked in known:
            return answers[asked]
        if asked not in self._live:
            return 0
        more = inward(self._arcs, [name for name in self._live if name in known], answers, plan)
        return more if self._arcs[asked][0] in plan else -more

    def apart(self, known, asked):
        """A pair of worlds that agree in known and part in asked, or None."""
        if self.is_told(known, asked):
            return None
        filled = filled_world(self)
        return (filled, shifted(filled, ring_through(self._arcs, self._others(known, asked), asked), 1))

    def are_apart(self, known, asked, thing):
        """Whether any object is such a pair of worlds."""
        check_both(self._arcs, known, asked)
        if not is_pair(thing) or not self._is_world(thing[0]) or not self._is_world(thing[1]):
            return False
        return is_parted(thing[0], thing[1], known, asked)

    def arcs(self):
        """The dict from the arcs to their starts and ends."""
        return {name: self._arcs[name] for name in self._arcs}

    def nodes(self):
        """The nodes, as they are first met."""
        return list(self._nodes)

    def live(self):
        """The live arcs, in order."""
        return list(self._live)

    def _is_live(self, name):
        """Whether arcs lead from the end of an arc back to its start."""
        start, end = self._arcs[name]
        return start in reached(onward(self._arcs, self._arcs), end)

    def _is_given(self, known, asked):
        """Whether the asked arc is known or dead."""
        return asked in known or asked not in self._live

    def _others(self, known, asked):
        """The live arcs that are neither known nor asked."""
        return [name for name in free_arcs(self, known) if name != asked]

    def _is_cut(self, name, side):
        """Whether just one of both nodes of an arc belongs to a side."""
        start, end = self._arcs[name]
        return (start in side) != (end in side)

    def _is_world(self, thing):
        """Whether any object is a world of this net."""
        if not has_just(thing, self._arcs) or not all([is_count(thing[name]) for name in self._arcs]):
            return False
        return all([inward(self._arcs, self._arcs, thing, [node]) == 0 for node in self._nodes])


def free_arcs(net, known):
    """The live arcs that are not known, in order."""
    return [name for name in net.live() if name not in known]


def filled_world(net):
    """A world with at least 1 on each live arc."""
    arcs, world = net.arcs(), net.home()
    for name in net.live():
        start, end = arcs[name]
        ring = onward(arcs, [name]) + way_to(reached(onward(arcs, arcs), end), start)
        world = shifted(world, ring, 1)
    return world


def table_net(rows, columns):
    """The net of a table of numbers with its sums."""
    _check_rows_and_columns(rows, columns)
    arcs = {ALL: (SUMS, ALL)}
    for row in rows:
        arcs[row] = (ALL, f"row.{row}")
    for row in rows:
        for column in columns:
            arcs[f"{row}.{column}"] = (f"row.{row}", f"col.{column}")
    for column in columns:
        arcs[column] = (f"col.{column}", SUMS)
    return Net(arcs)


def _is_arc(thing):
    """Whether any object is a pair of names."""
    return is_pair(thing) and is_name(thing[0]) and is_name(thing[1])


def _nodes_of(arcs):
    """The nodes as they are first met, the start of an arc ahead of its end."""
    nodes = {}
    for name in arcs:
        start, end = arcs[name]
        nodes[start] = True
        nodes[end] = True
    return list(nodes)


def _check_rows_and_columns(rows, columns):
    """BadNames, if not all of both are unlike names of rows and columns."""
    seen = {}
    for names in (rows, columns):
        if not is_list(names) or len(names) == 0:
            raise BadNames(len(seen))
        for name in names:
            if not is_name(name) or "." in name or name in (ALL, SUMS) or name in seen:
                raise BadNames(len(seen))
            seen[name] = True
