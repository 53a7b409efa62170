"""Which of all sets of places tell, where more places tell no less."""


def _tellings(many, tells):
    """A list of truths, one for each set of places, the set being the bits of its index."""
    out = []
    for mask in range(1 << many):
        # A set with one place less stands ahead, as it is the lesser number.
        less = [mask - (1 << place) for place in range(many) if mask >> place & 1]
        if any([out[part] for part in less]):
            out.append(True)
        else:
            out.append(tells(_places(many, mask)))
    return out


def _places(many, mask):
    """The places of a set, ascending."""
    return [place for place in range(many) if mask >> place & 1]


def least_sets(many, tells):
    """All lists of places that tell, of which none does that lacks one; shorter ones first."""
    tellings = _tellings(many, tells)
    out = []
    for mask in range(1 << many):
        places = _places(many, mask)
        if tellings[mask] and not any([tellings[mask - (1 << place)] for place in places]):
            out.append(places)
    return sorted(out, key=lambda places: (len(places), places))


def most_sets(many, tells):
    """All lists of places that do not tell, but do with each further place; in the order of lists."""
    tellings = _tellings(many, tells)
    out = []
    for mask in range(1 << many):
        others = [place for place in range(many) if not mask >> place & 1]
        if not tellings[mask] and all([tellings[mask + (1 << place)] for place in others]):
            out.append(_places(many, mask))
    return sorted(out)
