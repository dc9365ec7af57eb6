"""Changing lamps: quickening and killing standings."""

from lanternhouse.house import cycles_of, need_doors
from lanternhouse.reach import rooms_of
from lanternhouse.requirements import BLUE, RED, need_two_trades
from lanternhouse.standing import Standing, lights_of, need_fits
from lanternhouse.ways import cheapest_meeting


def change_lamps(house, standing, doors):
    """Return the standing with the lamps of the listed doors changed."""
    need_fits(house, standing)
    need_doors(house, doors)
    need_two_trades(house, standing)
    places = [
        next_other(cycle, place) if door in doors else place
        for door, (cycle, place) in enumerate(zip(cycles_of(house), standing.places))
    ]
    return Standing(standing.hands, places)


def next_other(cycle, place):
    """Return the next place of the cycle whose letter differs from the one at the place."""
    light = cycle[place]
    while cycle[place] == light:
        place = (place + 1) % len(cycle)
    return place


def changing_costs(lights, light):
    """Return costs that count the doors whose light has to be changed to the light."""
    return [0 if own == light else 1 for own in lights]


def meeting_over(house, standing, red_costs, blue_costs):
    """Return (cost, red way, blue way) of a cheapest meeting, or None without reds or blues."""
    return cheapest_meeting(house, rooms_of(standing, RED), rooms_of(standing, BLUE), red_costs, blue_costs)


def quicken(house, standing):
    """Return as few doors as possible whose lamps make the standing live, or None."""
    need_fits(house, standing)
    need_two_trades(house, standing)
    lights = lights_of(house, standing)
    red_costs, blue_costs = changing_costs(lights, RED), changing_costs(lights, BLUE)
    found = meeting_over(house, standing, red_costs, blue_costs)
    if found is None:
        return None
    _, red_way, blue_way = found
    # No door is on both ways, since the two could meet at one of its ends
    # and save what it costs: so no door is listed twice.
    changed = [door for door in red_way[1] if red_costs[door] == 1]
    return sorted(changed + [door for door in blue_way[1] if blue_costs[door] == 1])


def distance_of(house, standing):
    """Return the least number of doors between a red and a blue, or None."""
    costs = [1] * len(house.doors)
    found = meeting_over(house, standing, costs, costs)
    return None if found is None else found[0]


def closeness(house, standing):
    """Return the distance of the standing, or None if it has no red or no blue."""
    need_fits(house, standing)
    need_two_trades(house, standing)
    return distance_of(house, standing)


def killing_lamps(house, standing):
    """Return the ascending list of the killing lamps, or None."""
    need_fits(house, standing)
    need_two_trades(house, standing)
    distance = distance_of(house, standing)
    # Distance 0 is a room that holds both, distance 1 a door between them.
    if distance is not None and distance < 2:
        return None
    lights = lights_of(house, standing)
    return [
        door
        for door, (first, second, _) in enumerate(house.doors)
        if (lights[door], first) in standing.hands or (lights[door], second) in standing.hands
    ]
