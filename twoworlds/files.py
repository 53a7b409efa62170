"""Live files: what becomes known, and can be taken back."""

from twoworlds.checks import check_asked, is_one_of
from twoworlds.engine import told_by
from twoworlds.errors import Known, NotKnown


class File:
    """A live file of a field, at first without anything known."""

    def __init__(self, field):
        self._field = field
        # What was and what is to come are tuples of tuples: they are replaced, never changed.
        self._now = ()
        self._past = ()
        self._future = ()

    def learn(self, name):
        """Make a question known."""
        check_asked(self._field.questions(), name)
        if name in self._now:
            raise Known(name)
        self._do((*self._now, name))

    def forget(self, name):
        """Take one of the known questions away."""
        if not is_one_of(self._now, name):
            raise NotKnown(name)
        self._do(tuple([one for one in self._now if one != name]))

    def known(self):
        """The known questions, as they were learned."""
        return list(self._now)

    def told(self):
        """All questions that are told."""
        return told_by(self._field, self.known())

    def tells(self, name):
        """Whether a question is told."""
        return self._field.is_told(self.known(), name)

    def undo(self):
        """Take the last deed back; whether there was one."""
        if not self._past:
            return False
        self._future = (*self._future, self._now)
        self._now = self._past[-1]
        self._past = self._past[:-1]
        return True

    def again(self):
        """Do the last deed again that was taken back; whether there was one."""
        if not self._future:
            return False
        self._past = (*self._past, self._now)
        self._now = self._future[-1]
        self._future = self._future[:-1]
        return True

    def copy(self):
        """A file like this one, also in what it can take back and do again."""
        other = File(self._field)
        other._now = self._now
        other._past = self._past
        other._future = self._future
        return other

    def trial(self, work):
        """What a function returns for this file, behind which all is as it was."""
        now, past, future = self._now, self._past, self._future
        try:
            return work(self)
        finally:
            self._now, self._past, self._future = now, past, future

    def _do(self, now):
        """A new deed: what was taken back can not be done again."""
        self._past = (*self._past, self._now)
        self._now = now
        self._future = ()
