"""The errors of Twoworlds: each holds what it was made with."""


class WorldError(ValueError):
    """Any error that this package raises by the document."""


class BadWorld(WorldError):
    """A thing that is no world of the field."""
    def __init__(self, thing):
        self.thing = thing


class BadKnown(WorldError):
    """The first thing in a list that is no question, or stood before."""
    def __init__(self, index):
        self.index = index


class NoQuestion(WorldError):
    """A thing that is no question of the field."""
    def __init__(self, name):
        self.name = name


class BadPlan(WorldError):
    """A thing that is no plan."""
    def __init__(self, thing):
        self.thing = thing


class BadAnswers(WorldError):
    """A thing that is no answers."""
    def __init__(self, thing):
        self.thing = thing


class BadHands(WorldError):
    """The first name of hands that is none, or has no list of unlike questions."""
    def __init__(self, name):
        self.name = name


class BadGroup(WorldError):
    """The first thing in a group that is no hand, or stood before."""
    def __init__(self, index):
        self.index = index


class NoHand(WorldError):
    """A thing that is no name of a hand."""
    def __init__(self, name):
        self.name = name


class BadNumber(WorldError):
    """A thing that is no number of the kind that is asked for."""
    def __init__(self, thing):
        self.thing = thing


class Known(WorldError):
    """A question that is known already."""
    def __init__(self, name):
        self.name = name


class NotKnown(WorldError):
    """A thing that is none of the known questions."""
    def __init__(self, name):
        self.name = name


class BadRow(WorldError):
    """The first thing in rows that is none."""
    def __init__(self, index):
        self.index = index


class UnlikeQuestions(WorldError):
    """Tables that have not the same questions in the same order."""


class BadTree(WorldError):
    """A thing that is no tree that finds what is asked."""
    def __init__(self, thing):
        self.thing = thing


class BadWeight(WorldError):
    """The first thing in weights that is none, or their number."""
    def __init__(self, index):
        self.index = index


class BadView(WorldError):
    """The first name of a view that is none, or stands for no question."""
    def __init__(self, name):
        self.name = name


class BadBox(WorldError):
    """The first state of a box that is none, or has no moves."""
    def __init__(self, state):
        self.state = state


class BadAsk(WorldError):
    """The first name of questions of a box that is none, or has no row."""
    def __init__(self, name):
        self.name = name


class NoState(WorldError):
    """A thing that is no state."""
    def __init__(self, name):
        self.name = name


class NoLetter(WorldError):
    """A thing that is no letter."""
    def __init__(self, name):
        self.name = name


class BadPut(WorldError):
    """The first thing in a row that is no letter."""
    def __init__(self, index):
        self.index = index


class BadMarks(WorldError):
    """A thing that is no marks."""
    def __init__(self, thing):
        self.thing = thing


class BadLink(WorldError):
    """The first sign that is no letter of the other box."""
    def __init__(self, sign):
        self.sign = sign


class UnlikeLetters(WorldError):
    """Things that have not the same letters in the same order."""


class BadUnknown(WorldError):
    """The first thing in unknowns that is no name, or stood before."""
    def __init__(self, index):
        self.index = index


class BadSum(WorldError):
    """The first name of sums that is none, or has no row."""
    def __init__(self, name):
        self.name = name


class BadPrime(WorldError):
    """A thing that is no prime that may be taken."""
    def __init__(self, prime):
        self.prime = prime


class BadHolder(WorldError):
    """The first thing in holders that is none."""
    def __init__(self, index):
        self.index = index


class BadLetters(WorldError):
    """A thing that is no letters."""
    def __init__(self, thing):
        self.thing = thing


class BadMachine(WorldError):
    """The first name of machines that is none, or has no reader."""
    def __init__(self, name):
        self.name = name


class BadIndex(WorldError):
    """A thing that is no index."""
    def __init__(self, index):
        self.index = index


class TakenName(WorldError):
    """A name that something has already."""
    def __init__(self, name):
        self.name = name


class BadCode(WorldError):
    """The first name of codes that is none, or has no code."""
    def __init__(self, name):
        self.name = name


class BadClass(WorldError):
    """The first name of classes that is none, or has no class."""
    def __init__(self, name):
        self.name = name


class Uneven(WorldError):
    """The first code that is not even, where all have to be."""
    def __init__(self, name):
        self.name = name


class BadReader(WorldError):
    """A thing that is no reader that tells what is asked."""
    def __init__(self, thing):
        self.thing = thing


class NoClass(WorldError):
    """A name that is not that of a class."""
    def __init__(self, name):
        self.name = name


class BadPart(WorldError):
    """The first name of parts that is none."""
    def __init__(self, name):
        self.name = name


class BadBundle(WorldError):
    """The first name of bundles that is none, or has no list of unlike questions."""
    def __init__(self, name):
        self.name = name


class BadLinks(WorldError):
    """The first thing in links that is none, or stood before."""
    def __init__(self, index):
        self.index = index


class BadTelling(WorldError):
    """The first thing in tellings that can not be done there."""
    def __init__(self, index):
        self.index = index


class BadText(WorldError):
    """A thing that is no text of the kind that is read."""
    def __init__(self, thing):
        self.thing = thing


class BadName(WorldError):
    """A thing that is no name."""
    def __init__(self, name):
        self.name = name


class NoName(WorldError):
    """A name under which nothing is kept."""
    def __init__(self, name):
        self.name = name


class BadThing(WorldError):
    """A thing that is not of a kind to keep, or not of the kind asked for."""
    def __init__(self, thing):
        self.thing = thing


class BadOrder(WorldError):
    """A thing that is no line."""
    def __init__(self, line):
        self.line = line


class BadLine(WorldError):
    """The first thing in lines that can not be done there."""
    def __init__(self, index):
        self.index = index


class NoRow(WorldError):
    """No row has what is asked for."""


class BadWindow(WorldError):
    """The first name of windows that is none, or has no window."""
    def __init__(self, name):
        self.name = name


class Crowded(WorldError):
    """The first stretch in which too many must stand."""
    def __init__(self, first, last):
        self.first = first
        self.last = last


class BadPeople(WorldError):
    """The first thing in people that is none of them, or stood before."""
    def __init__(self, index):
        self.index = index


class BadPlaces(WorldError):
    """The first thing in places that is none of them, or stood before."""
    def __init__(self, index):
        self.index = index


class BadPlace(WorldError):
    """A thing that is no place, or a last one ahead of the first one."""
    def __init__(self, thing):
        self.thing = thing


class BadFacts(WorldError):
    """A thing that is no facts."""
    def __init__(self, thing):
        self.thing = thing


class NoPerson(WorldError):
    """A thing that is none of the people."""
    def __init__(self, name):
        self.name = name


class SamePerson(WorldError):
    """A person that stands for both of two."""
    def __init__(self, name):
        self.name = name


class BadArc(WorldError):
    """The first name of arcs that is none, or has no pair of nodes."""
    def __init__(self, name):
        self.name = name


class BadNames(WorldError):
    """The first thing in rows and columns that is no name, or stood before."""
    def __init__(self, index):
        self.index = index


class BadAmounts(WorldError):
    """The first name of amounts that is none, or has none."""
    def __init__(self, name):
        self.name = name


class BadPiece(WorldError):
    """The first thing in pieces that is none, or stood before."""
    def __init__(self, index):
        self.index = index
