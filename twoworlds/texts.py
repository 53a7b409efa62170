"""Tables, hands and links as texts: lines of words, each ended by a newline."""

from twoworlds.checks import DIGITS, are_unlike_names, is_list, is_name, is_pair
from twoworlds.errors import BadHands, BadLinks, BadText
from twoworlds.tables import Table

ASKS = "asks"
ROW = "row"
HAND = "hand"
LINK = "link"
MOST_FIGURES = 15


def write_table(table):
    """The text of a table."""
    lines = [[ASKS, *table.questions()]]
    lines.extend([[ROW, *[str(row[name]) for name in row]] for row in table.rows()])
    return _text_of(lines)


def read_table(text):
    """The table of a text."""
    lines = _lines_of(text)
    if len(lines) < 2 or lines[0][0] != ASKS or len(lines[0]) == 1 or not are_unlike_names(lines[0][1:]):
        raise BadText(text)
    names, rows = lines[0][1:], []
    for line in lines[1:]:
        if line[0] != ROW or len(line) != len(names) + 1 or not all([is_written_integer(word) for word in line[1:]]):
            raise BadText(text)
        rows.append({name: int(word) for name, word in zip(names, line[1:])})
    return Table(rows)


def write_hands(hands):
    """The text of hands, whatever field their questions are of."""
    check_any_hands(hands)
    return _text_of([[HAND, name, *hands[name]] for name in hands])


def read_hands(text):
    """The hands of a text."""
    hands = {}
    for line in _lines_of(text):
        if line[0] != HAND or len(line) < 2 or not is_name(line[1]) or line[1] in hands:
            raise BadText(text)
        if not are_unlike_names(line[2:]):
            raise BadText(text)
        hands[line[1]] = line[2:]
    if len(hands) == 0:
        raise BadText(text)
    return hands


def write_links(links):
    """The text of links, whatever hands they are of."""
    check_any_links(links)
    return _text_of([[LINK, one, other] for one, other in links])


def read_links(text):
    """The links of a text."""
    lines = _lines_of(text)
    links = [(line[1], line[2]) for line in lines if len(line) == 3 and line[0] == LINK]
    if len(links) < len(lines) or _first_bad_link(links) is not None:
        raise BadText(text)
    return links


def check_any_hands(hands):
    """BadHands, if hands are no dict from names to lists of unlike names."""
    if not isinstance(hands, dict) or len(hands) == 0:
        raise BadHands(None)
    for name in hands:
        if not is_name(name) or not are_unlike_names(hands[name]):
            raise BadHands(name)


def check_any_links(links):
    """BadLinks, if links are no list of unlike pairs of unlike names."""
    index = _first_bad_link(links)
    if index is not None:
        raise BadLinks(index)


def is_written_integer(word):
    """Whether a word is an integer in at most fifteen figures, as it is written here."""
    figures = word[1:] if word.startswith("-") else word
    if not 1 <= len(figures) <= MOST_FIGURES or not all([figure in DIGITS for figure in figures]):
        return False
    return figures[0] != "0" or word == "0"


def _first_bad_link(links):
    """The index of the first thing that is no pair of unlike names or stood before, 0 for no list, or None."""
    if not is_list(links):
        return 0
    seen = {}
    for index, link in enumerate(links):
        if not is_pair(link) or not is_name(link[0]) or not is_name(link[1]) or link[0] == link[1]:
            return index
        if (link[0], link[1]) in seen:
            return index
        seen[(link[0], link[1])] = True
    return None


def _text_of(lines):
    """The text of lines of words."""
    return "".join([" ".join(line) + "\n" for line in lines])


def _lines_of(text):
    """The lines of words of a text; BadText, if it is none."""
    if not isinstance(text, str):
        raise BadText(text)
    lines = [line.split(" ") for line in text.split("\n")]
    # Behind the last newline stands nothing, which is no line.
    if lines[-1] != [""] or not all([word != "" for line in lines[:-1] for word in line]):
        raise BadText(text)
    return lines[:-1]
