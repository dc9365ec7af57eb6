"""Standings: where the hands are and at which places the doors are."""

from lanternhouse.errors import InvalidStanding, UnknownPart
from lanternhouse.house import cycles_of, has_room, has_trade, need_doors, need_rooms

MASTER = "*"


class Standing:
    """The trades and rooms of the hands, and the places of the doors."""

    def __init__(self, hands, places):
        self.hands = tuple([(trade, room) for trade, room in hands])
        self.places = tuple(places)


def fits(house, standing):
    """Tell whether the standing fits the house."""
    return places_fit(house, standing.places) and hands_fit(house, standing.hands)


def places_fit(house, places):
    """Tell whether there is one place for each door, within its cycle."""
    if len(places) != len(house.doors):
        return False
    return all([0 <= place < len(cycle) for place, cycle in zip(places, cycles_of(house))])


def hands_fit(house, hands):
    """Tell whether the house has the trades and the rooms of the hands."""
    for trade, room in hands:
        if trade != MASTER and not has_trade(house, trade):
            return False
        if not has_room(house, room):
            return False
    return True


def has_hand(standing, hand):
    """Tell whether the standing has the hand."""
    return 0 <= hand < len(standing.hands)


def need_fits(house, standing):
    """Raise InvalidStanding if the standing does not fit the house."""
    if not fits(house, standing):
        raise InvalidStanding("the standing does not fit the house")


def need_hands(standing, hands):
    """Raise UnknownPart if one of the listed hands does not exist."""
    for hand in hands:
        if not has_hand(standing, hand):
            raise UnknownPart(f"there is no hand {hand}")


def trades_of(standing):
    """Return the list of the trades of the hands."""
    return [trade for trade, _ in standing.hands]


def hands_of(standing, trade):
    """Return the ascending list of the hands of the trade."""
    return [hand for hand, own in enumerate(trades_of(standing)) if own == trade]


def lights_of(house, standing):
    """Return the list of the lights of all doors."""
    return [cycle[place] for cycle, place in zip(cycles_of(house), standing.places)]


def last_lights_of(house, standing):
    """Return the list of the last lights of all doors."""
    # Index -1, behind place 0, is the last letter, as the document wants it.
    return [cycle[place - 1] for cycle, place in zip(cycles_of(house), standing.places)]


def light_of(house, standing, door):
    """Return the light of the door."""
    need_fits(house, standing)
    need_doors(house, [door])
    return lights_of(house, standing)[door]


def last_light_of(house, standing, door):
    """Return the last light of the door."""
    need_fits(house, standing)
    need_doors(house, [door])
    return last_lights_of(house, standing)[door]


def hands_in(house, standing, room):
    """Return the ascending list of the hands in the room."""
    need_fits(house, standing)
    need_rooms(house, [room])
    return [hand for hand, (_, own) in enumerate(standing.hands) if own == room]


def census_of(house, standing):
    """Return for each room how many hands of each trade, and masters, it holds."""
    need_fits(house, standing)
    kinds = house.trades + MASTER
    return [tuple([standing.hands.count((kind, room)) for kind in kinds]) for room in range(house.rooms)]
