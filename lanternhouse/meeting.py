"""First meetings of a red and a blue."""

from lanternhouse.deeds import Run
from lanternhouse.reach import rooms_of
from lanternhouse.requirements import BLUE, RED, need_two_trades
from lanternhouse.standing import lights_of, need_fits
from lanternhouse.ways import cheapest_meeting, walking_costs


def shortest_ways(house, standing):
    """Return (doors, red way, blue way) with as few doors as possible, or None if dead."""
    lights = lights_of(house, standing)
    return cheapest_meeting(
        house,
        rooms_of(standing, RED),
        rooms_of(standing, BLUE),
        walking_costs(lights, RED),
        walking_costs(lights, BLUE),
    )


def meeting_distance(house, standing):
    """Return the meeting distance, or None if the standing is dead."""
    need_fits(house, standing)
    need_two_trades(house, standing)
    found = shortest_ways(house, standing)
    return None if found is None else found[0]


def first_meeting(house, standing):
    """Return a red, a blue and the run of a first meeting, or None if the standing is dead."""
    need_fits(house, standing)
    need_two_trades(house, standing)
    found = shortest_ways(house, standing)
    if found is None:
        return None
    _, (red_room, red_doors), (blue_room, blue_doors) = found
    red = standing.hands.index((RED, red_room))
    blue = standing.hands.index((BLUE, blue_room))
    # No door is on both ways, since they use different lights: so the one
    # hand changes no light that the other one needs.
    return red, blue, Run([(red, door) for door in red_doors] + [(blue, door) for door in blue_doors])
