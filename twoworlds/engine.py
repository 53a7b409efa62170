"""What files tell, of any field."""

from twoworlds.checks import asked_files, check_both, check_known
from twoworlds.subsets import least_sets, most_sets


def told_by(field, known):
    """All questions of the field, in order, that known tells."""
    questions = field.questions()
    check_known(questions, known)
    return [name for name in questions if field.is_told(known, name)]


def is_closed(field, known):
    """Whether known tells no questions besides itself."""
    return len(told_by(field, known)) == len(known)


def needless(field, known, asked):
    """Those of known without each of which, by itself, the others tell asked."""
    check_both(field.questions(), known, asked)
    if not field.is_told(known, asked):
        return []
    return [name for name in known if field.is_told(_without(known, name), asked)]


def thinned(field, known, asked):
    """What is left of known if needless ones are taken away from the last one to the first, or None."""
    check_both(field.questions(), known, asked)
    if not field.is_told(known, asked):
        return None
    left = list(known)
    for name in list(known)[::-1]:
        others = _without(left, name)
        if field.is_told(others, asked):
            left = others
    return left


def least_files(field, asked, of=None):
    """All files that tell asked, of which none does that lacks one question."""
    names = asked_files(field, asked, of)
    return [_chosen(names, file) for file in least_sets(len(names), _teller(field, names, asked))]


def secrets(field, asked, of=None):
    """All files that do not tell asked, but do with each further question."""
    names = asked_files(field, asked, of)
    return [_chosen(names, file) for file in most_sets(len(names), _teller(field, names, asked))]


def needed(field, asked, of=None):
    """Those questions without each of which all others do not tell asked, [] if all do not."""
    names = asked_files(field, asked, of)
    if not field.is_told(names, asked):
        return []
    return [name for name in names if not field.is_told(_without(names, name), asked)]


def idle(field, asked, of=None):
    """Those questions that stand in no least file."""
    names = asked_files(field, asked, of)
    used = {}
    for file in least_files(field, asked, names):
        for name in file:
            used[name] = True
    return [name for name in names if name not in used]


def _without(names, left_out):
    """The list of names but for one."""
    return [name for name in names if name != left_out]


def _chosen(names, places):
    """The names at some places."""
    return [names[place] for place in places]


def _teller(field, names, asked):
    """A function that tells of places whether the names there tell asked."""
    def tells(places):
        return field.is_told(_chosen(names, places), asked)
    return tells
