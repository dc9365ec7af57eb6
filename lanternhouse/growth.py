"""Growth: houses and standings with a new door, room or hand, and joined houses."""

from lanternhouse.errors import InvalidHouse, InvalidStanding
from lanternhouse.house import House, need_rooms, need_trade
from lanternhouse.reach import need_dead, spread_over, walked_to
from lanternhouse.requirements import BLUE, RED, need_two_trades
from lanternhouse.standing import MASTER, Standing, lights_of, need_fits


def grown(trades, rooms, doors, hands, places):
    """Return the house and the standing that are made of these parts, the last door being new."""
    # All other doors are valid already, so only the new one can be found faulty.
    new_house = House(rooms, doors, trades=trades)
    _, _, cycle = doors[-1]
    if not 0 <= places[-1] < len(cycle):
        raise InvalidStanding("the new door does not have the place")
    return new_house, Standing(hands, places)


def with_door(house, standing, first, second, cycle, *, place=0):
    """Return the house and the standing with a new door."""
    need_fits(house, standing)
    need_rooms(house, [first, second])
    doors = list(house.doors) + [(first, second, cycle)]
    return grown(house.trades, house.rooms, doors, standing.hands, list(standing.places) + [place])


def with_room(house, standing, room, cycle, *, place=0):
    """Return the house and the standing with a new room that is joined to the room."""
    need_fits(house, standing)
    need_rooms(house, [room])
    doors = list(house.doors) + [(room, house.rooms, cycle)]
    return grown(house.trades, house.rooms + 1, doors, standing.hands, list(standing.places) + [place])


def with_hand(house, standing, trade, room):
    """Return the standing with a new hand."""
    need_fits(house, standing)
    if trade != MASTER:
        need_trade(house, trade)
    need_rooms(house, [room])
    return Standing(list(standing.hands) + [(trade, room)], standing.places)


def quickening_doors(house, standing):
    """Return the sorted list of the triples (first, second, light) of the quickening doors."""
    need_fits(house, standing)
    need_two_trades(house, standing)
    need_dead(house, standing)
    lights = lights_of(house, standing)
    found = []
    for light, other in ((RED, BLUE), (BLUE, RED)):
        sources = spread_over(house, standing, lights, light)
        goals = walked_to(house, lights, light, spread_over(house, standing, lights, other))
        # No room is a source and a goal, since the standing is dead.
        for source in sources:
            found.extend([(min(source, goal), max(source, goal), light) for goal in goals])
    return sorted(found)


def joined(
    first_house, first_standing, second_house, second_standing, first_room, second_room, cycle, *, place=0
):
    """Return the house and the standing that join the two by a new door."""
    need_fits(first_house, first_standing)
    need_fits(second_house, second_standing)
    need_rooms(first_house, [first_room])
    need_rooms(second_house, [second_room])
    if first_house.trades != second_house.trades:
        raise InvalidHouse(None)
    shift = first_house.rooms
    doors = list(first_house.doors)
    doors.extend([(first + shift, second + shift, own) for first, second, own in second_house.doors])
    doors.append((first_room, second_room + shift, cycle))
    hands = list(first_standing.hands) + [(trade, room + shift) for trade, room in second_standing.hands]
    places = list(first_standing.places + second_standing.places) + [place]
    return grown(first_house.trades, shift + second_house.rooms, doors, hands, places)
