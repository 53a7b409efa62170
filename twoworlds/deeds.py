"""The lines of a desk: what their words stand for, what they make, and what they tell.

THINGS are a dict from names to pairs (kind, thing): a table, hands as a dict of tuples,
or links as a tuple of pairs. In the FORM of a line N is a new name, T, H and L are names
of a table, of hands and of links, W is that of any thing, Q is a name of any kind, Q* are
any number of these, and K is an integer.
"""

from twoworlds.checks import check_asked, is_name
from twoworlds.cuts import cuts
from twoworlds.engine import least_files, secrets
from twoworlds.errors import BadHands, BadLinks, BadOrder, BadThing, NoName, NoRow, TakenName
from twoworlds.hands import knows
from twoworlds.tables import Table
from twoworlds.talks import all_talked, check_hand, leak, talked
from twoworlds.texts import check_any_hands, check_any_links, is_written_integer, write_hands, write_links, write_table

TABLE = "table"
HANDS = "hands"
LINKS = "links"
KINDS = {"T": TABLE, "H": HANDS, "L": LINKS}
MORE = "Q*"

FORMS = {
    "only": "N T Q Q*", "join": "N T T", "where": "N T Q K", "give": "N H Q Q", "say": "N T H L Q Q Q",
    "bar": "N L Q Q", "drop": "W", "told": "T Q Q*", "least": "T Q", "secrets": "T Q", "knows": "T H Q Q*",
    "reach": "T H L Q", "leak": "T H L Q Q", "cuts": "T H L Q Q", "rows": "T", "text": "W", "names": "",
}


def own_pair(thing):
    """The pair of the kind of a thing and of a copy of it; BadThing, if it is none to keep."""
    if isinstance(thing, Table):
        return (TABLE, thing)
    try:
        check_any_hands(thing)
        return (HANDS, {name: tuple(thing[name]) for name in thing})
    except BadHands:
        pass
    try:
        check_any_links(thing)
        return (LINKS, tuple([(one, other) for one, other in thing]))
    except BadLinks:
        raise BadThing(thing) from None


def passed_on(pair):
    """A kept thing as it is told to the asker."""
    kind, thing = pair
    if kind == TABLE:
        return thing
    return {name: list(thing[name]) for name in thing} if kind == HANDS else list(thing)


def words_of(line):
    """The words of a line; BadOrder, if any object is none."""
    words = line.split(" ") if isinstance(line, str) and "\n" not in line else [""]
    if "" in words or words[0] not in FORMS or not _fits(FORMS[words[0]].split(), words[1:]):
        raise BadOrder(line)
    return words


def check_words(things, words):
    """NoName, then BadThing, then TakenName, for the names of things among the words of a line."""
    placed = list(zip(FORMS[words[0]].split(), words[1:]))
    old = [(sort, word) for sort, word in placed if sort in KINDS or sort == "W"]
    for _, word in old:
        if word not in things:
            raise NoName(word)
    for sort, word in old:
        if things[word][0] != KINDS.get(sort, things[word][0]):
            raise BadThing(word)
    for sort, word in placed:
        if sort == "N" and word in things:
            raise TakenName(word)


def is_deed(words):
    """Whether a line makes something, or drops it."""
    return words[0] in DEEDS or words[0] == "drop"


def things_behind(things, words):
    """The things behind a line that makes something, or drops it."""
    if words[0] == "drop":
        return {name: things[name] for name in things if name != words[1]}
    work = DEEDS[words[0]]
    return {**things, words[1]: work(things, words[2:])}


def said_of(things, words):
    """What a line that asks returns."""
    work = ASKS[words[0]]
    return work(things, words[1:])


def _fits(form, words):
    """Whether words can stand at the places of a form."""
    if MORE in form:
        form = [sort for sort in form if sort != MORE]
        form = form + ["Q"] * (len(words) - len(form))
    if len(words) != len(form):
        return False
    return all([_is_of_sort(sort, word) for sort, word in zip(form, words)])


def _is_of_sort(sort, word):
    """Whether a word can stand for what is asked at its place; whether a thing is kept is asked later."""
    if sort == "K":
        return is_written_integer(word)
    return is_name(word) if sort in ("N", "Q") else True


def _only(things, words):
    return (TABLE, things[words[0]][1].only(words[1:]))


def _join(things, words):
    return (TABLE, things[words[0]][1] + things[words[1]][1])


def _where(things, words):
    table, question, answer = things[words[0]][1], words[1], int(words[2])
    check_asked(table.questions(), question)
    rows = [row for row in table.rows() if row[question] == answer]
    if len(rows) == 0:
        raise NoRow()
    return (TABLE, Table(rows))


def _give(things, words):
    hands = things[words[0]][1]
    check_hand(hands, words[1])
    return _given(hands, words[1], words[2])


def _say(things, words):
    table, hands, links = [things[word][1] for word in words[:3]]
    talked(table, hands, links, [words[3:]])
    return _given(hands, words[4], words[5])


def _given(hands, name, question):
    """Hands in which one has a question behind its others, if it has it not."""
    if question in hands[name]:
        return (HANDS, hands)
    return (HANDS, {**hands, name: (*hands[name], question)})


def _bar(things, words):
    links, link = things[words[0]][1], (words[1], words[2])
    if link not in links:
        raise BadLinks(0)
    return (LINKS, tuple([one for one in links if one != link]))


def _told(things, words):
    return _yes_or_no(things[words[0]][1].is_told(words[2:], words[1]))


def _least(things, words):
    return _in_a_row(least_files(things[words[0]][1], words[1]))


def _secrets(things, words):
    return _in_a_row(secrets(things[words[0]][1], words[1]))


def _knows(things, words):
    return _yes_or_no(knows(things[words[0]][1], things[words[1]][1], words[3:], words[2]))


def _reach(things, words):
    table, hands, links = [things[word][1] for word in words[:3]]
    known = all_talked(table, hands, links)
    check_hand(hands, words[3])
    return _side_by_side(known[words[3]])


def _leak(things, words):
    table, hands, links = [things[word][1] for word in words[:3]]
    tellings = leak(table, hands, links, words[3], words[4])
    return "never" if tellings is None else str(len(tellings))


def _cuts(things, words):
    table, hands, links = [things[word][1] for word in words[:3]]
    found = cuts(table, hands, links, words[3], words[4])
    return _in_a_row([[name for link in cut for name in link] for cut in found])


def _rows(things, words):
    return str(len(things[words[0]][1]))


def _text(things, words):
    kind, thing = things[words[0]]
    if kind == TABLE:
        return write_table(thing)
    return write_hands(thing) if kind == HANDS else write_links(thing)


def _names(things, _):
    return " ".join(sorted(things))


def _yes_or_no(truth):
    return "yes" if truth else "no"


def _side_by_side(words):
    """Words separated by blanks, - for none."""
    return " ".join(words) if len(words) > 0 else "-"


def _in_a_row(files):
    """Lists of words, one behind the other."""
    return ", ".join([_side_by_side(file) for file in files]) if len(files) > 0 else "none"


DEEDS = {"only": _only, "join": _join, "where": _where, "give": _give, "say": _say, "bar": _bar}

ASKS = {
    "told": _told, "least": _least, "secrets": _secrets, "knows": _knows, "reach": _reach, "leak": _leak,
    "cuts": _cuts, "rows": _rows, "text": _text, "names": _names,
}
