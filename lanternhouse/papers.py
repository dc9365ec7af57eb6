"""Papers: sets of rooms that show that a standing is dead."""

from lanternhouse.house import need_rooms
from lanternhouse.reach import need_dead, rooms_of, spread_over, walked_to
from lanternhouse.requirements import BLUE, RED, need_tree, need_two_trades
from lanternhouse.standing import lights_of, need_fits
from lanternhouse.trees import rooms_outward

# A room is in the set of the reds, in the set of the blues, or in neither of them.
PARTS = "RB-"


def is_paper(house, standing, paper):
    """Tell whether the pair of lists of rooms is a paper of the standing."""
    need_fits(house, standing)
    reds, blues = paper
    need_rooms(house, reds)
    need_rooms(house, blues)
    need_two_trades(house, standing)
    if any([room in blues for room in reds]):
        return False
    return keeps(house, standing, RED, reds) and keeps(house, standing, BLUE, blues)


def keeps(house, standing, trade, rooms):
    """Tell whether the rooms hold all hands of the trade, and no door of its light leads out."""
    if not all([room in rooms for room in rooms_of(standing, trade)]):
        return False
    lights = lights_of(house, standing)
    return all([
        (first in rooms) == (second in rooms)
        for (first, second, _), light in zip(house.doors, lights)
        if light == trade
    ])


def rooms_without(house, rooms):
    """Return the ascending list of the rooms of the house that are not listed."""
    return [room for room in range(house.rooms) if room not in rooms]


def least_paper(house, standing):
    """Return the paper with the least first and the largest second set."""
    need_fits(house, standing)
    need_two_trades(house, standing)
    need_dead(house, standing)
    lights = lights_of(house, standing)
    reds = spread_over(house, standing, lights, RED)
    return reds, rooms_without(house, walked_to(house, lights, BLUE, reds))


def greatest_paper(house, standing):
    """Return the paper with the largest first and the least second set."""
    need_fits(house, standing)
    need_two_trades(house, standing)
    need_dead(house, standing)
    lights = lights_of(house, standing)
    blues = spread_over(house, standing, lights, BLUE)
    return rooms_without(house, walked_to(house, lights, RED, blues)), blues


def in_either(first, second):
    """Return the ascending list of the rooms that are in at least one of the lists."""
    return sorted(set(first) | set(second))


def in_both(first, second):
    """Return the ascending list of the rooms that are in both lists."""
    return sorted(set(first) & set(second))


def join_papers(first, second):
    """Return the join of the two papers."""
    return in_either(first[0], second[0]), in_both(first[1], second[1])


def meet_papers(first, second):
    """Return the meet of the two papers."""
    return in_both(first[0], second[0]), in_either(first[1], second[1])


def agree(light, part, other):
    """Tell whether a door with the light may have ends in these two parts."""
    return (part == light) == (other == light)


def first_counts(house, standing):
    """Return for each room a dict that tells for each part whether the room may be in it, 1 or 0."""
    counts = [{part: 1 for part in PARTS} for _ in range(house.rooms)]
    for trade, room in standing.hands:
        for part in PARTS:
            if part != trade:
                counts[room][part] = 0
    return counts


def count_papers(house, standing):
    """Return the number of papers, in a tree."""
    need_fits(house, standing)
    need_two_trades(house, standing)
    need_tree(house)
    lights = lights_of(house, standing)
    counts = first_counts(house, standing)
    # The outer rooms come first, so that the count of a room is whole when it
    # is taken over by the room before it.
    for room, door, before in rooms_outward(house)[::-1]:
        for part in PARTS:
            outer = sum([counts[room][own] for own in PARTS if agree(lights[door], part, own)])
            counts[before][part] *= outer
    return sum([counts[0][part] for part in PARTS])


def closed_rooms(house, standing):
    """Return the ascending list of the rooms that belong to neither spread."""
    need_fits(house, standing)
    need_two_trades(house, standing)
    need_dead(house, standing)
    lights = lights_of(house, standing)
    reds = spread_over(house, standing, lights, RED)
    blues = spread_over(house, standing, lights, BLUE)
    return rooms_without(house, reds + blues)
