"""The ladder of known sums: all worlds in which they are 0."""

from twoworlds.checks import check_known
from twoworlds.sums import rungs_of


def ladder(sums, known):
    """The list of the rungs, which is the same for lists that tell the same."""
    check_known(sums.questions(), known)
    return [tuple(rung) for rung in rungs_of(sums, known)]
