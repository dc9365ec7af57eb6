"""The requirements that do not belong to houses, standings or reach alone."""

from lanternhouse.errors import (
    NoDoors, NotEven, NotOdd, NotStrict, NotSwift, NotTree, TooFewHands, UnlikeHands, WrongTrades,
)
from lanternhouse.house import is_even, is_odd, is_strict, is_swift, is_tree
from lanternhouse.standing import MASTER, need_fits, trades_of

RED = "R"
BLUE = "B"
RED_AND_BLUE = "RB"
ENOUGH_HANDS = 3


def need_red_and_blue(house):
    """Raise WrongTrades if the trades of the house are not the string RB."""
    if house.trades != RED_AND_BLUE:
        raise WrongTrades("the trades of the house are not RB")


def need_no_masters(standing):
    """Raise WrongTrades if a hand is a master."""
    if MASTER in trades_of(standing):
        raise WrongTrades("a hand is a master")


def need_two_trades(house, standing):
    """Raise WrongTrades if the trades are not RB or a hand is a master."""
    need_red_and_blue(house)
    need_no_masters(standing)


def need_same_hands(start, end):
    """Raise UnlikeHands if the hands of the two standings have other trades or numbers."""
    if trades_of(start) != trades_of(end):
        raise UnlikeHands("the two standings do not have the same hands")


def need_like_standings(house, start, end):
    """Check the requirements fits, same hands and two trades of two standings."""
    need_fits(house, start)
    need_fits(house, end)
    need_same_hands(start, end)
    need_two_trades(house, start)


def need_a_door(house):
    """Raise NoDoors if the house has no door."""
    if len(house.doors) == 0:
        raise NoDoors("the house has no door")


def need_even(house):
    """Raise NotEven if the house is not even."""
    if not is_even(house):
        raise NotEven("the house is not even")


def need_odd(house):
    """Raise NotOdd if the house is not odd."""
    if not is_odd(house):
        raise NotOdd("the house is not odd")


def need_tree(house):
    """Raise NotTree if the house is no tree."""
    if not is_tree(house):
        raise NotTree("the house is no tree")


def need_strict(house):
    """Raise NotStrict if the house is not strict."""
    if not is_strict(house):
        raise NotStrict("the house is not strict")


def need_swift(house):
    """Raise NotSwift if the house is not swift."""
    if not is_swift(house):
        raise NotSwift("the house is not swift")


def need_three_hands(standing):
    """Raise TooFewHands if there are less than three hands."""
    if len(standing.hands) < ENOUGH_HANDS:
        raise TooFewHands("there are less than three hands")


def need_tree_or_three_hands(house, standing):
    """Raise TooFewHands if the house is no tree and there are less than three hands."""
    if not is_tree(house):
        need_three_hands(standing)
