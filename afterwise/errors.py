"""The errors of Afterwise; each bears what it was made with."""


class AfterError(ValueError):
    """Anything that the program refuses."""


class WrongThing(AfterError):
    """A thing that was passed is not what it should be."""

    def __init__(self, thing):
        self.thing = thing


class WrongItem(AfterError):
    """An item of something that is made has a wrong form; -1 stands for the whole."""

    def __init__(self, number):
        self.number = number


class BadAsks(WrongThing):
    """This should be asks: 1 to 4 different letters from a to h, ascending."""


class BadRow(WrongThing):
    """This should be a row over the asks."""


class BadAsk(WrongThing):
    """This should be one of the asks."""


class BadState(WrongThing):
    """This should be a state of the store."""


class BadStates(WrongThing):
    """This should be an ascending tuple of states, one or more."""


class BadPrice(WrongThing):
    """This should be a price."""


class BadCourse(WrongThing):
    """This should be a course for the row."""


class BadKind(WrongThing):
    """This should be a kind."""


class BadFactors(WrongThing):
    """This should be a tuple of an integer for each teller."""


class BadCounts(WrongThing):
    """This should be a tuple of an integer for each ask."""


class BadTimes(WrongThing):
    """This should be an integer from 0 on."""


class BadView(WrongThing):
    """This should be a tuple of an integer for each kind."""


class BadSight(WrongThing):
    """This should be an integer from 0 to 3."""


class BadMany(WrongThing):
    """This should be an integer from 1 to 12."""


class BadAmount(WrongThing):
    """This should be an integer."""


class BadBook(WrongThing):
    """This should be a tuple of a row for each new ask, none of them empty."""


class BadTitle(WrongThing):
    """This should be a title of 1 to 20 letters from a to z."""


class BadMachine(WrongItem):
    """The machine has a wrong form at this kind."""


class BadGate(WrongItem):
    """The gate has a wrong form at this place."""


class BadHand(WrongItem):
    """The hand has a wrong form at this place."""


class BadDeed(WrongItem):
    """The deeds have a wrong form at this number."""


class BadStore(AfterError):
    """This part of a store (begins, costs, ends) has a wrong form."""

    def __init__(self, part):
        self.part = part


class Unlike(AfterError):
    """Things that should fit one another do not, in what the word tells."""

    def __init__(self, word):
        self.word = word


class TooMany(AfterError):
    """More things of the kind that the word tells come up than may."""

    def __init__(self, word):
        self.word = word


class Below(AfterError):
    """A price below 0, or a machine, stands where only stores without such may."""


class NotHindsight(AfterError):
    """The distance of this pair of kinds is not bounded."""

    def __init__(self, one, other):
        self.one = one
        self.other = other


class TooFew(AfterError):
    """The teller has this number of kinds, more than the many."""

    def __init__(self, number):
        self.number = number


class NothingWanted(AfterError):
    """The learner is told something although it is at its end."""


class BadLine(AfterError):
    """This word of this line cannot stand where it stands."""

    def __init__(self, line, word):
        self.line = line
        self.word = word


class Twice(AfterError):
    """There is a watch of this title already."""

    def __init__(self, title):
        self.title = title


class Unknown(AfterError):
    """There is no watch of this title."""

    def __init__(self, title):
        self.title = title


class NoDeed(AfterError):
    """There is no deed to take back or to do again; the word tells which."""

    def __init__(self, word):
        self.word = word
