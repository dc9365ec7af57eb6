"""Deeds and runs."""

from lanternhouse.errors import BadDeed, NotPossible
from lanternhouse.house import has_door, need_doors
from lanternhouse.standing import MASTER, Standing, need_fits, need_hands
from lanternhouse.ways import far_end


class Run:
    """A list of deeds."""

    def __init__(self, deeds):
        self.deeds = tuple([(hand, door) for hand, door in deeds])

    def __len__(self):
        return len(self.deeds)

    def __iter__(self):
        return iter(self.deeds)

    def __add__(self, other):
        return Run(self.deeds + other.deeds)

    def __neg__(self):
        return Run(self.deeds[::-1])


def is_possible(house, hands, places, hand, door):
    """Tell whether the deed is possible where the hands and places are as listed."""
    if not 0 <= hand < len(hands) or not has_door(house, door):
        return False
    trade, room = hands[hand]
    first, second, cycle = house.doors[door]
    if room not in (first, second):
        return False
    return trade == MASTER or trade == cycle[places[door]]


def perform(house, hands, places, hand, door):
    """Do a possible deed in the lists of the hands and the places themselves."""
    # Long runs are replayed in these lists, as a new standing for each deed takes long.
    trade, room = hands[hand]
    hands[hand] = (trade, far_end(house, door, room))
    places[door] = (places[door] + 1) % len(house.doors[door][2])


def standing_after(house, standing, hand, door):
    """Return the standing after a possible deed."""
    hands, places = list(standing.hands), list(standing.places)
    perform(house, hands, places, hand, door)
    return Standing(hands, places)


def can_do(house, standing, hand, door):
    """Tell whether the deed is possible."""
    need_fits(house, standing)
    return is_possible(house, standing.hands, standing.places, hand, door)


def do(house, standing, hand, door):
    """Return the standing after the deed."""
    need_fits(house, standing)
    need_hands(standing, [hand])
    need_doors(house, [door])
    if not is_possible(house, standing.hands, standing.places, hand, door):
        raise NotPossible(hand, door)
    return standing_after(house, standing, hand, door)


def possible_deeds(house, standing):
    """Return the ascending list of all possible deeds."""
    need_fits(house, standing)
    hands, places = standing.hands, standing.places
    return [
        (hand, door)
        for hand in range(len(hands))
        for door in range(len(house.doors))
        if is_possible(house, hands, places, hand, door)
    ]


def replay(house, standing, run):
    """Return the standing that the run leads to."""
    need_fits(house, standing)
    hands, places = list(standing.hands), list(standing.places)
    for at, (hand, door) in enumerate(run.deeds):
        if not is_possible(house, hands, places, hand, door):
            raise BadDeed(at)
        perform(house, hands, places, hand, door)
    return Standing(hands, places)


def course(house, standing, run):
    """Return the list of the standings from the first one to the last one."""
    need_fits(house, standing)
    hands, places = list(standing.hands), list(standing.places)
    standings = [Standing(hands, places)]
    for at, (hand, door) in enumerate(run.deeds):
        if not is_possible(house, hands, places, hand, door):
            raise BadDeed(at)
        perform(house, hands, places, hand, door)
        standings.append(Standing(hands, places))
    return standings


def passes_of(house, run):
    """Return a list with the number of deeds of the run at each door."""
    need_doors(house, [door for _, door in run.deeds])
    passes = [0] * len(house.doors)
    for _, door in run.deeds:
        passes[door] += 1
    return passes
