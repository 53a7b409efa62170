"""Desks: tables, hands and links under names, and lines that make them and ask for them."""

from twoworlds.checks import is_list, is_name, is_one_of
from twoworlds.deeds import check_words, is_deed, own_pair, passed_on, said_of, things_behind, words_of
from twoworlds.errors import BadLine, BadName, BadOrder, BadThing, NoName, TakenName, WorldError

KEEP = "keep"


class Desk:
    """Keeps things under names, at first none."""

    def __init__(self):
        # Tuples of pairs of a line and of the things behind it: both are replaced, never changed.
        self._done = ()
        self._undone = ()

    def keep(self, name, thing):
        """Keep a thing under a name."""
        if not is_name(name):
            raise BadName(name)
        if name in self._things():
            raise TakenName(name)
        pair = own_pair(thing)
        self._do(f"{KEEP} {name} {pair[0]}", {**self._things(), name: pair})

    def kept(self, name):
        """The thing that is kept under a name."""
        if not is_one_of(self._things(), name):
            raise NoName(name)
        return passed_on(self._things()[name])

    def names(self):
        """The names under which something is kept, ascending."""
        return sorted(self._things())

    def told(self, line):
        """What a line returns; behind one that makes something it is kept."""
        words = words_of(line)
        check_words(self._things(), words)
        if not is_deed(words):
            return said_of(self._things(), words)
        self._do(line, things_behind(self._things(), words))
        return "done"

    def undo(self):
        """Take the last deed back; whether there was one."""
        if len(self._done) == 0:
            return False
        self._undone = (*self._undone, self._done[-1])
        self._done = self._done[:-1]
        return True

    def again(self):
        """Do the last deed again that was taken back; whether there was one."""
        if len(self._undone) == 0:
            return False
        self._done = (*self._done, self._undone[-1])
        self._undone = self._undone[:-1]
        return True

    def copy(self):
        """A desk like this one, also in what it can take back and do again."""
        other = Desk()
        other._done = self._done
        other._undone = self._undone
        return other

    def trial(self, work):
        """What a function returns for this desk, behind which all is as it was."""
        done, undone = self._done, self._undone
        try:
            return work(self)
        finally:
            self._done, self._undone = done, undone

    def log(self):
        """The lines that were done and not taken back, in order."""
        return [line for line, _ in self._done]

    def _things(self):
        """The things that are kept now."""
        return self._done[-1][1] if len(self._done) > 0 else {}

    def _do(self, line, things):
        """A new deed: what was taken back can not be done again."""
        self._done = (*self._done, (line, things))
        self._undone = ()


def replayed(lines, things):
    """The desk behind the lines of a list, what is kept being taken from a dict of things."""
    if not is_list(lines) or not isinstance(things, dict):
        raise BadLine(0)
    desk = Desk()
    for index, line in enumerate(lines):
        try:
            _replay(desk, line, things)
        except WorldError:
            raise BadLine(index) from None
    return desk


def _replay(desk, line, things):
    """Does a line that makes something, or that keeps one of the things."""
    words = line.split(" ") if isinstance(line, str) else [""]
    if words[0] == KEEP and len(words) == 3:
        _, name, kind = words
        if name not in things or own_pair(things[name])[0] != kind:
            raise BadThing(line)
        desk.keep(name, things[name])
    elif is_deed(words):
        desk.told(line)
    else:
        raise BadOrder(line)
