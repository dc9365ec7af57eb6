"""Plans: runs from a live standing to a rooted one with the same hands."""

from lanternhouse.gathering import gathered, settled
from lanternhouse.house import longest_cycle
from lanternhouse.ledgers import unlike_room
from lanternhouse.mirror import turned_house, turned_standing
from lanternhouse.reach import need_live, need_rooted
from lanternhouse.requirements import need_like_standings, need_odd, need_tree_or_three_hands
from lanternhouse.trails import reversed_pieces, run_of


def plan_bound(house, hands):
    """Return the plan bound for so many hands."""
    rooms, doors, longest = house.rooms, len(house.doors), longest_cycle(house)
    gathering = hands * (rooms - 1) * (4 * longest + 1)
    return 2 * gathering + 4 * doors * rooms * (2 * longest + 1)


def fullest_room(house, start, end):
    """Return the room with the most hands in the two standings together, the least of several."""
    rooms = [room for _, room in start.hands + end.hands]
    counts = [rooms.count(room) for room in range(house.rooms)]
    return counts.index(max(counts))


def parted(house, end, room):
    """Return a standing with all hands in the room, and pieces that lead from it to the rooted end."""
    house_back = turned_house(house)
    trail = gathered(house_back, turned_standing(house, end), room)
    return turned_standing(house_back, trail.standing), reversed_pieces(trail.pieces)


def need_plan_parts(house, start, end):
    """Check all requirements of a plan."""
    need_like_standings(house, start, end)
    need_odd(house)
    need_tree_or_three_hands(house, start)
    need_live(house, start)
    need_rooted(house, end)


def plan_halves(house, start, end):
    """Return the trail that gathers the hands in one room, and the pieces from there to the end."""
    room = fullest_room(house, start, end)
    first = gathered(house, start, room)
    target, last_pieces = parted(house, end, room)
    return first, settled(house, first.standing, target).pieces + last_pieces


def plan_pieces(house, start, end):
    """Return the pieces of the plan if all ledgers are equal."""
    first, last_pieces = plan_halves(house, start, end)
    return first.pieces + last_pieces


def plan(house, start, end):
    """Return (run, None) with a plan, or (None, least unlike room)."""
    need_plan_parts(house, start, end)
    room = unlike_room(house, start, end)
    if room is not None:
        return None, room
    return run_of(plan_pieces(house, start, end)), None


def pieces(house, start, end):
    """Return the list of the pieces of the plan, or None if there is none."""
    need_plan_parts(house, start, end)
    if unlike_room(house, start, end) is not None:
        return None
    return plan_pieces(house, start, end)
