"""Rows of people, each of whom stands within a window of places."""

from twoworlds.checks import check_both, check_lacking, first_bad, is_integer, is_list, is_name, is_pair, is_parted
from twoworlds.errors import BadAnswers, BadPeople, BadPlace, BadPlaces, BadPlan, BadWindow, BadWorld, Crowded
from twoworlds.seating import PLACE, answer_of, changed, is_place, is_row, is_stretch, place_of, room_asked, room_of
from twoworlds.seating import seated, seated_by, stretches, swaps_asked


class Seats:
    """A field whose worlds are the rows in which each of people stands within its window."""

    def __init__(self, windows, people=None, places=None):
        _check_windows(windows)
        self._windows = {name: (windows[name][0], windows[name][1]) for name in windows}
        self._rooms = _rooms(self._windows)
        everyone = list(self._windows)
        everywhere = list(range(len(everyone)))
        people = everyone if people is None else people
        places = everywhere if places is None else places
        _check_people_and_places(self._windows, people, places)
        self._questions = [*people, *[f"{PLACE}{place}" for place in places]]
        self._lacks = {swap: self._lacking(swap) for swap in swaps_asked(self._windows)}

    def __len__(self):
        return len(self._windows)

    def __eq__(self, other):
        if not isinstance(other, Seats):
            return False
        return list(self._windows.items()) == list(other._windows.items()) and self._questions == other._questions

    def questions(self):
        """The asked people, then the asked places."""
        return list(self._questions)

    def home(self):
        """A row."""
        return seated(self._windows, {})

    def answers(self, world):
        """All answers in a row."""
        if not is_row(self._windows, world):
            raise BadWorld(world)
        return {question: answer_of(list(world), question) for question in self._questions}

    def is_told(self, known, asked):
        """Whether known tells asked."""
        check_both(self._questions, known, asked)
        return self._parting(known, asked) is None

    def plan(self, known, asked):
        """A dict from all swaps that would part asked to stretches without enough room, or None."""
        check_both(self._questions, known, asked)
        if self._parting(known, asked) is not None:
            return None
        return {swap: self._lacks[swap] for swap in self._met(known, asked)}

    def is_plan(self, known, asked, thing):
        """Whether any object is such a dict."""
        check_both(self._questions, known, asked)
        met = self._met(known, asked)
        if not isinstance(thing, dict) or len(thing) != len(met):
            return False
        # A truth value would stand for a place in a key.
        if not all([isinstance(key, tuple) and not any([isinstance(part, bool) for part in key]) for key in thing]):
            return False
        return all([swap in thing and self._is_lack(swap, thing[swap]) for swap in met])

    def found(self, known, asked, plan, answers):
        """The answer to asked in each row that has these answers to known."""
        if not self.is_plan(known, asked, plan):
            raise BadPlan(plan)
        check_lacking(known, answers)
        row = seated_by(self._windows, {question: answers[question] for question in known})
        if row is None:
            raise BadAnswers(answers)
        return answer_of(row, asked)

    def apart(self, known, asked):
        """A pair of rows that agree in known and part in asked, or None."""
        check_both(self._questions, known, asked)
        swap = self._parting(known, asked)
        if swap is None:
            return None
        one, other, first, last = swap
        row = seated(self._windows, {one: first, other: last})
        return (row, changed(row, (one, other)))

    def are_apart(self, known, asked, thing):
        """Whether any object is such a pair of rows."""
        check_both(self._questions, known, asked)
        if not is_pair(thing) or not all([is_row(self._windows, row) for row in thing]):
            return False
        return is_parted(self.answers(thing[0]), self.answers(thing[1]), known, asked)

    def windows(self):
        """The dict from people to their windows."""
        return {name: self._windows[name] for name in self._windows}

    def room(self, stretch):
        """The room of a stretch."""
        return self._rooms[stretch]

    def lacks(self):
        """The dict from all tuples of two people and two places of both to a stretch without enough room, or None."""
        return {swap: self._lacks[swap] for swap in self._lacks}

    def _lacking(self, swap):
        """A stretch without the room that a swap asks for, or None."""
        for stretch in self._rooms:
            # No swap asks for more room than 2.
            if self._rooms[stretch] < 2 and self._rooms[stretch] < room_asked(self._windows, swap, stretch):
                return stretch
        return None

    def _is_lack(self, swap, thing):
        """Whether any object is a stretch without the room that a swap asks for."""
        if not is_stretch(self._windows, thing):
            return False
        stretch = (thing[0], thing[1])
        return self._rooms[stretch] < room_asked(self._windows, swap, stretch)

    def _met(self, known, asked):
        """The tuples of people and places in which asked stands, and nothing of known."""
        if asked in known:
            return []
        thing, others = _person_or_place(asked), [_person_or_place(question) for question in known]
        return [swap for swap in self._lacks if thing in swap and not any([other in swap for other in others])]

    def _parting(self, known, asked):
        """A swap that changes asked, and nothing of known, or None."""
        for swap in self._met(known, asked):
            if self._lacks[swap] is None:
                return swap
        return None


def room(seats, first, last):
    """The room of a stretch."""
    for place in (first, last):
        if not is_place(seats.windows(), place):
            raise BadPlace(place)
    if last < first:
        raise BadPlace(last)
    return seats.room((first, last))


def is_swap(seats, thing):
    """Whether any object is a swap."""
    if not is_list(thing) or len(thing) != 4 or not all([isinstance(part, str) or is_integer(part) for part in thing]):
        return False
    return tuple(thing) in swaps(seats)


def swaps(seats):
    """All swaps, by the order of the people, then by places."""
    lacks = seats.lacks()
    return [swap for swap in lacks if lacks[swap] is None]


def _person_or_place(question):
    """The name of one of people, or the number of a place, that a question asks about."""
    place = place_of(question)
    return question if place is None else place


def _check_windows(windows):
    """BadWindow, if it is no dict from names to windows."""
    if not isinstance(windows, dict) or len(windows) == 0:
        raise BadWindow(None)
    for name in windows:
        if not is_name(name) or name.startswith(PLACE) or not is_stretch(windows, windows[name]):
            raise BadWindow(name)


def _rooms(windows):
    """The dict from all stretches to their rooms; Crowded, if there is no row."""
    rooms = {stretch: room_of(windows, stretch) for stretch in stretches(windows)}
    for first, last in rooms:
        if rooms[(first, last)] < 0:
            raise Crowded(first, last)
    return rooms


def _check_people_and_places(windows, people, places):
    """BadPeople, or BadPlaces, if they are no lists of unlike ones, or both empty."""
    index = first_bad(windows, people)
    if index is not None:
        raise BadPeople(index)
    if not is_list(places) or len(people) + len(places) == 0:
        raise BadPlaces(0)
    seen = {}
    for index, place in enumerate(places):
        if not is_place(windows, place) or place in seen:
            raise BadPlaces(index)
        seen[place] = True
