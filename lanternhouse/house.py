"""Houses and their kinds."""

from lanternhouse.errors import InvalidHouse, NotThere, UnknownPart
from lanternhouse.ways import far_end, ways_from


class House:
    """Rooms that are joined by doors with cycles of trades."""

    def __init__(self, rooms, doors, *, trades="RB"):
        self.rooms = rooms
        self.doors = tuple([(first, second, cycle) for first, second, cycle in doors])
        self.trades = trades
        check_house(self)


def check_house(house):
    """Raise InvalidHouse if the house is none."""
    if house.rooms < 1 or not are_trades(house.trades):
        raise InvalidHouse(None)
    for door, (first, second, cycle) in enumerate(house.doors):
        if not is_door(house, first, second, cycle):
            raise InvalidHouse(door)
    if not hangs_together(house):
        raise InvalidHouse(None)


def is_letter(sign):
    """Tell whether a sign, a string of length 1, is a letter from A to Z."""
    return "A" <= sign <= "Z"


def are_trades(trades):
    """Tell whether the string can be the trades of a house."""
    if len(trades) < 2 or len(set(trades)) != len(trades):
        return False
    return all([is_letter(sign) for sign in trades])


def is_door(house, first, second, cycle):
    """Tell whether the house may have a door with these ends and this cycle."""
    if not has_room(house, first) or not has_room(house, second) or first == second:
        return False
    return set(cycle) == set(house.trades)


def hangs_together(house):
    """Tell whether every room can be reached from room 0."""
    # A huge number of rooms with few doors must not take memory for each room.
    if len(house.doors) < house.rooms - 1:
        return False
    cost_to, _ = ways_from(house, [1] * len(house.doors), [0])
    return len(cost_to) == house.rooms


def has_room(house, room):
    """Tell whether the house has the room."""
    return 0 <= room < house.rooms


def has_door(house, door):
    """Tell whether the house has the door."""
    return 0 <= door < len(house.doors)


def has_trade(house, trade):
    """Tell whether the string is one letter of the trades of the house."""
    # The empty string and longer strings may be parts of the trades, too.
    return len(trade) == 1 and trade in house.trades


def need_rooms(house, rooms):
    """Raise UnknownPart if one of the listed rooms does not exist."""
    for room in rooms:
        if not has_room(house, room):
            raise UnknownPart(f"there is no room {room}")


def need_doors(house, doors):
    """Raise UnknownPart if one of the listed doors does not exist."""
    for door in doors:
        if not has_door(house, door):
            raise UnknownPart(f"there is no door {door}")


def need_trade(house, trade):
    """Raise UnknownPart if the trade is none of the house."""
    if not has_trade(house, trade):
        raise UnknownPart(f"there is no trade {trade!r}")


def cycles_of(house):
    """Return the list of the cycles of all doors."""
    return [door[2] for door in house.doors]


def doors_at(house, room):
    """Return the ascending list of the doors that have the room as an end."""
    need_rooms(house, [room])
    return [door for door, (first, second, _) in enumerate(house.doors) if room in (first, second)]


def other_end(house, door, room):
    """Return the room at the other end of the door."""
    need_doors(house, [door])
    need_rooms(house, [room])
    first, second, _ = house.doors[door]
    if room not in (first, second):
        raise NotThere(f"room {room} is no end of door {door}")
    return far_end(house, door, room)


def longest_cycle(house):
    """Return the number of letters of the longest cycle, 0 without doors."""
    return max([len(cycle) for cycle in cycles_of(house)], default=0)


def is_odd(house):
    """Tell whether every trade occurs an odd number of times in every cycle."""
    return all([cycle.count(trade) % 2 == 1 for cycle in cycles_of(house) for trade in house.trades])


def is_even(house):
    """Tell whether every cycle has an even number of letters."""
    return all([len(cycle) % 2 == 0 for cycle in cycles_of(house)])


def is_strict(house):
    """Tell whether every cycle is exactly two letters long."""
    return all([len(cycle) == 2 for cycle in cycles_of(house)])


def is_tree(house):
    """Tell whether the house has exactly one door less than rooms."""
    return len(house.doors) == house.rooms - 1


def is_swift(house):
    """Tell whether no cycle has a B behind a B, going round its end."""
    return all(["BB" not in cycle + cycle[0] for cycle in cycles_of(house)])
