"""Which nodes of machines are alike: the same is seen at them, and so on along all steps."""


def first_alike(keys, nexts):
    """A list of the first node that is alike, for each node: keys are what is seen there, nexts lists of nodes."""
    firsts = _firsts(keys)
    while True:
        finer = _firsts([(firsts[at], *[firsts[after] for after in nexts[at]]) for at in range(len(nexts))])
        if finer == firsts:
            return firsts
        firsts = finer


def _firsts(keys):
    """A list of the first place at which each key stands."""
    first = {}
    for at, key in enumerate(keys):
        first.setdefault(key, at)
    return [first[key] for key in keys]
