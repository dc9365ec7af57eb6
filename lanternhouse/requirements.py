"""The requirements that do not belong to houses, standings or reach alone."""

from lanternhouse.errors import NotTree, WrongTrades
from lanternhouse.house import is_tree
from lanternhouse.standing import MASTER

RED = "R"
BLUE = "B"
RED_AND_BLUE = "RB"


def need_red_and_blue(house):
    """Raise WrongTrades if the trades of the house are not the string RB."""
    if house.trades != RED_AND_BLUE:
        raise WrongTrades("the trades of the house are not RB")


def need_two_trades(house, standing):
    """Raise WrongTrades if the trades are not RB or a hand is a master."""
    need_red_and_blue(house)
    for trade, _ in standing.hands:
        if trade == MASTER:
            raise WrongTrades("a hand is a master")


def need_tree(house):
    """Raise NotTree if the house is no tree."""
    if not is_tree(house):
        raise NotTree("the house is no tree")
