"""Undoing a deed: runs from the standing after it to the standing before it."""

from lanternhouse.deeds import Run, do
from lanternhouse.house import need_doors
from lanternhouse.pairs import letters_ahead
from lanternhouse.planner import plan
from lanternhouse.reach import is_live, is_rooted
from lanternhouse.requirements import need_odd, need_tree, need_two_trades
from lanternhouse.standing import need_fits, need_hands


def helpers_at(house, standing, trade, door):
    """Return the ascending list of the hands of the other trade at the ends of the door."""
    first, second, _ = house.doors[door]
    return [
        hand for hand, (own, room) in enumerate(standing.hands)
        if own != trade and room in (first, second)
    ]


def undo_run(house, standing, hand, door):
    """Return a run that undoes the deed, which is done in the standing, or None."""
    need_fits(house, standing)
    need_hands(standing, [hand])
    need_doors(house, [door])
    need_two_trades(house, standing)
    need_odd(house)
    need_tree(house)
    after = do(house, standing, hand, door)
    trade, _ = standing.hands[hand]
    _, _, cycle = house.doors[door]
    helpers = helpers_at(house, standing, trade, door)
    if len(helpers) > 0:
        # Two whole cycles without the letter of the deed: the hand takes an odd
        # number of letters and comes back, the helper an even number.
        letters = letters_ahead(house, after, door, 2 * len(cycle) - 1)
        return Run([(hand if letter == trade else helpers[0], door) for letter in letters])
    if not is_live(house, after) or not is_rooted(house, standing):
        return None
    run, _ = plan(house, after, standing)
    return run
