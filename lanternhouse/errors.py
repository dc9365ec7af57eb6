"""The errors of the program."""


class HouseError(ValueError):
    """The base class of all errors of the program."""


class InvalidHouse(HouseError):
    """The arguments describe no house."""

    def __init__(self, door):
        super().__init__(f"no house (door: {door})")
        self.door = door


class BadDeed(HouseError):
    """A run has a deed that is not possible."""

    def __init__(self, at):
        super().__init__(f"the deed at position {at} is not possible")
        self.at = at


class InvalidText(HouseError):
    """A text is no written form."""

    def __init__(self, line):
        super().__init__(f"line {line} is not of the required form")
        self.line = line


class NotPossible(HouseError):
    """A deed or a lesson is not possible."""

    def __init__(self, hand, door):
        super().__init__(f"not possible (hand: {hand}, door: {door})")
        self.hand = hand
        self.door = door


class Refused(HouseError):
    """A desk does not do a row."""

    def __init__(self, row):
        super().__init__(f"refused: {row}")
        self.row = row


class InvalidStanding(HouseError):
    """A standing does not fit the house."""


class UnknownPart(HouseError):
    """A room, a door, a hand or a trade does not exist."""


class UnlikeHands(HouseError):
    """Two standings do not have the same hands."""


class WrongTrades(HouseError):
    """The trades of the house or of the hands are not the required ones."""


class NoDoors(HouseError):
    """The house has no door."""


class NotEven(HouseError):
    """The house is not even."""


class NotOdd(HouseError):
    """The house is not odd."""


class NotTree(HouseError):
    """The house is no tree."""


class NotStrict(HouseError):
    """The house is not strict."""


class NotSwift(HouseError):
    """The house is not swift."""


class TooFewHands(HouseError):
    """There are not enough hands."""


class NoPair(HouseError):
    """There is no pair of a red and a blue as required."""


class NoCrew(HouseError):
    """There is no crew as required."""


class NoMaster(HouseError):
    """No hand is a master."""


class NotTogether(HouseError):
    """The hands do not all stand in one room."""


class NotThere(HouseError):
    """A part is not where it has to be."""


class BadSteps(HouseError):
    """The number of steps is not allowed."""


class NotDead(HouseError):
    """The standing is not dead."""


class NotLive(HouseError):
    """The standing is not live."""


class NotRooted(HouseError):
    """The standing is not rooted."""
