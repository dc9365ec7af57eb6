"""The clock: what the number of deeds of a run leaves when it is divided by the period."""

from lanternhouse.coins import common_divisor
from lanternhouse.house import cycles_of
from lanternhouse.requirements import RED, need_a_door, need_odd, need_two_trades
from lanternhouse.standing import need_fits
from lanternhouse.trees import ring_of, rooms_outward


def measure_of(house):
    """Return the measure of the house."""
    need_a_door(house)
    return common_divisor([len(cycle) for cycle in cycles_of(house)])


def weights_of(house):
    """Return a list that has 1 for each heavy door and 0 for every other one."""
    measure = measure_of(house)
    return [len(cycle) // measure % 2 for cycle in cycles_of(house)]


def colours_along_tree(house, weights):
    """Return the list of the numbers that the tree doors give to the rooms, 0 to room 0."""
    colours = [0] * house.rooms
    for room, door, before in rooms_outward(house):
        colours[room] = (colours[before] + weights[door]) % 2
    return colours


def wrong_doors(house):
    """Return the doors whose ring has an odd number of heavy doors."""
    weights = weights_of(house)
    colours = colours_along_tree(house, weights)
    return [
        door
        for door, (first, second, _) in enumerate(house.doors)
        if (colours[first] + colours[second] + weights[door]) % 2 == 1
    ]


def colouring_of(house):
    """Return the colouring, a list of 0 and 1, or None."""
    need_a_door(house)
    if len(wrong_doors(house)) > 0:
        return None
    return colours_along_tree(house, weights_of(house))


def odd_ring(house):
    """Return the odd ring, a list of doors, or None if there is a colouring."""
    need_a_door(house)
    doors = wrong_doors(house)
    return None if len(doors) == 0 else ring_of(house, doors[0])


def period_of(house):
    """Return the period of the house."""
    measure = measure_of(house)
    return measure if colouring_of(house) is None else 2 * measure


def time_of(house, standing):
    """Return the time of the standing."""
    need_fits(house, standing)
    need_two_trades(house, standing)
    need_a_door(house)
    need_odd(house)
    total = sum(standing.places)
    colours = colouring_of(house)
    if colours is not None:
        total += measure_of(house) * parts_with_colours(house, standing, colours)
    return total % period_of(house)


def parts_with_colours(house, standing, colours):
    """Return how many parts of the time count the measure each, if there is a colouring."""
    letters = [
        cycle[:place].count(RED)
        for cycle, place, weight in zip(cycles_of(house), standing.places, weights_of(house))
        if weight == 1
    ]
    reds = [room for trade, room in standing.hands if trade == RED and colours[room] == 0]
    return sum(letters) + len(reds)
