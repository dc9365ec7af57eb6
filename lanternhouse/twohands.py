"""Two hands in a strict tree: shortest runs of a red and a blue that begin in one room."""

from lanternhouse.deeds import Run
from lanternhouse.errors import NoPair
from lanternhouse.ledgers import unlike_room
from lanternhouse.pairs import travel_deeds
from lanternhouse.reach import need_rooted, root_rooms
from lanternhouse.requirements import BLUE, RED, need_like_standings, need_strict, need_tree
from lanternhouse.standing import trades_of
from lanternhouse.trees import way_between


def need_two_in_one_room(standing):
    """Raise NoPair if the hands are not exactly a red and a blue in one room."""
    if sorted(trades_of(standing)) != [BLUE, RED] or standing.hands[0][1] != standing.hands[1][1]:
        raise NoPair("the hands are not exactly a red and a blue in one room")


def two_hands_run(house, start, end):
    """Return (run, None) with a shortest run, or (None, least unlike room)."""
    need_like_standings(house, start, end)
    need_tree(house)
    need_strict(house)
    need_two_in_one_room(start)
    need_rooted(house, end)
    room = unlike_room(house, start, end)
    if room is not None:
        return None, room
    trades = trades_of(start)
    pair = (trades.index(RED), trades.index(BLUE))
    root = root_rooms(house, end)[0]
    deeds = travel_deeds(house, start, pair, root)
    # As the ledgers are equal, the doors behind the root room have the lights
    # now that are their last lights at the end.
    for hand in pair:
        deeds += [(hand, door) for door in way_between(house, root, end.hands[hand][1])]
    return Run(deeds), None
