"""The chase: how the captain of the reds can force a red and a blue into one room."""

from lanternhouse.errors import NoPair, NotThere
from lanternhouse.reach import walked_to
from lanternhouse.requirements import BLUE, RED, need_swift, need_tree, need_two_trades
from lanternhouse.standing import hands_of, lights_of, need_fits, need_hands
from lanternhouse.trees import way_between
from lanternhouse.ways import walking_costs, ways_from


def need_chase_parts(house, standing):
    """Check the requirements that is_forced and chased_pair share."""
    need_fits(house, standing)
    need_two_trades(house, standing)
    need_tree(house)
    need_swift(house)


def chases(house, standing):
    """Return a triple (doors, red, blue) for each red that could walk to a blue over so many red lights."""
    costs = walking_costs(lights_of(house, standing), RED)
    found = []
    for red in hands_of(standing, RED):
        cost_to, _ = ways_from(house, costs, [standing.hands[red][1]])
        for blue in hands_of(standing, BLUE):
            if standing.hands[blue][1] in cost_to:
                found.append((cost_to[standing.hands[blue][1]], red, blue))
    return found


def is_forced(house, standing):
    """Tell whether the captain of the reds can force a meeting."""
    need_chase_parts(house, standing)
    return len(chases(house, standing)) > 0


def chased_pair(house, standing):
    """Return the chased pair, a red and a blue, or None if a meeting cannot be forced."""
    need_chase_parts(house, standing)
    found = chases(house, standing)
    if len(found) == 0:
        return None
    _, red, blue = min(found)
    return red, blue


def chase_door(house, standing, pair):
    """Return the first door on the way from the red of the pair to the blue."""
    need_fits(house, standing)
    need_hands(standing, pair)
    need_chase_parts(house, standing)
    (red_trade, red_room), (blue_trade, blue_room) = [standing.hands[hand] for hand in pair]
    if red_trade != RED or blue_trade != BLUE:
        raise NoPair("the pair is not a red and a blue")
    if red_room == blue_room or blue_room not in walked_to(house, lights_of(house, standing), RED, [red_room]):
        raise NotThere("the red cannot walk to the blue in another room")
    return way_between(house, red_room, blue_room)[0]
