"""What the hands could walk to: spreads, live and rooted standings."""

from lanternhouse.deeds import possible_deeds, standing_after
from lanternhouse.errors import NotDead, NotLive, NotRooted
from lanternhouse.house import need_trade
from lanternhouse.requirements import BLUE, RED, need_two_trades
from lanternhouse.standing import last_lights_of, lights_of, need_fits
from lanternhouse.ways import walking_costs, ways_from


def rooms_of(standing, trade):
    """Return the list of the rooms of the hands of the trade, one for each hand."""
    return [room for own, room in standing.hands if own == trade]


def walked_to(house, lights, light, rooms):
    """Return the ascending list of the rooms that can be walked to from the rooms over the light."""
    cost_to, _ = ways_from(house, walking_costs(lights, light), rooms)
    return sorted(cost_to)


def spread_over(house, standing, lights, trade):
    """Return the spread of the trade if the lights are the listed ones."""
    return walked_to(house, lights, trade, rooms_of(standing, trade))


def rooms_in_both(house, standing, lights):
    """Return the ascending list of the rooms in both spreads if the lights are the listed ones."""
    reds = spread_over(house, standing, lights, RED)
    blues = spread_over(house, standing, lights, BLUE)
    return sorted(set(reds) & set(blues))


def spread_of(house, standing, trade):
    """Return the ascending list of the rooms of the spread of the trade."""
    need_fits(house, standing)
    need_trade(house, trade)
    need_two_trades(house, standing)
    return spread_over(house, standing, lights_of(house, standing), trade)


def meeting_rooms(house, standing):
    """Return the ascending list of the meeting rooms."""
    need_fits(house, standing)
    need_two_trades(house, standing)
    return rooms_in_both(house, standing, lights_of(house, standing))


def root_rooms(house, standing):
    """Return the ascending list of the root rooms."""
    need_fits(house, standing)
    need_two_trades(house, standing)
    return rooms_in_both(house, standing, last_lights_of(house, standing))


def is_live(house, standing):
    """Tell whether the standing is live."""
    return len(meeting_rooms(house, standing)) > 0


def is_rooted(house, standing):
    """Tell whether the standing is rooted."""
    return len(root_rooms(house, standing)) > 0


def need_dead(house, standing):
    """Raise NotDead if the standing is live."""
    if is_live(house, standing):
        raise NotDead("the standing is live")


def need_live(house, standing):
    """Raise NotLive if the standing is dead."""
    if not is_live(house, standing):
        raise NotLive("the standing is dead")


def need_rooted(house, standing):
    """Raise NotRooted if the standing is not rooted."""
    if not is_rooted(house, standing):
        raise NotRooted("the standing is not rooted")


def safe_deeds(house, standing):
    """Return the ascending list of the possible deeds that lead to a live standing."""
    need_fits(house, standing)
    need_two_trades(house, standing)
    return [
        (hand, door)
        for hand, door in possible_deeds(house, standing)
        if is_live(house, standing_after(house, standing, hand, door))
    ]
