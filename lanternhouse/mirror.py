"""Turning back and recolouring."""

from lanternhouse.house import House, cycles_of
from lanternhouse.requirements import BLUE, RED, need_red_and_blue
from lanternhouse.standing import Standing, need_fits


def turned_house(house):
    """Return the house with every cycle read from its last letter to its first."""
    doors = [(first, second, cycle[::-1]) for first, second, cycle in house.doors]
    return House(house.rooms, doors, trades=house.trades)


def turned_standing(house, standing):
    """Return the standing turned back, which fits the house turned back."""
    need_fits(house, standing)
    # The remainder leaves place 0 where it is.
    places = [-place % len(cycle) for place, cycle in zip(standing.places, cycles_of(house))]
    return Standing(standing.hands, places)


def exchanged(trade):
    """Return B for R, R for B, and any other letter or sign as it is."""
    if trade == RED:
        return BLUE
    return RED if trade == BLUE else trade


def recoloured_house(house):
    """Return the house with the letters R and B exchanged in all cycles."""
    need_red_and_blue(house)
    doors = [
        (first, second, "".join([exchanged(letter) for letter in cycle]))
        for first, second, cycle in house.doors
    ]
    return House(house.rooms, doors, trades=house.trades)


def recoloured_standing(house, standing):
    """Return the standing with the trades R and B of its hands exchanged."""
    need_fits(house, standing)
    need_red_and_blue(house)
    return Standing([(exchanged(trade), room) for trade, room in standing.hands], standing.places)
