"""Closed walks, and plans with a master, who may pass every door."""

from lanternhouse.deeds import Run
from lanternhouse.errors import NoMaster
from lanternhouse.house import longest_cycle, need_rooms
from lanternhouse.ledgers import unlike_room
from lanternhouse.mirror import turned_house, turned_standing
from lanternhouse.pairs import letters_ahead
from lanternhouse.planner import fullest_room
from lanternhouse.quiet import steps_of
from lanternhouse.requirements import need_even, need_same_hands
from lanternhouse.standing import MASTER, hands_of, need_fits, trades_of
from lanternhouse.trails import Trail, run_of
from lanternhouse.trees import tree_doors, way_between
from lanternhouse.walks import closed_doors


def closed_walk(house, room, passes):
    """Return a closed walk from the room, a list of doors, or None if there is none."""
    need_rooms(house, [room])
    return closed_doors(house, room, passes)


def master_bound(house, hands):
    """Return the master bound for so many hands."""
    longest = longest_cycle(house)
    return 2 * hands * (house.rooms - 1) * (longest + 2) + len(house.doors) * longest


def walk_master(trail, master, room):
    """Let the master walk along the tree to the room."""
    way = way_between(trail.house, trail.room_of(master), room)
    trail.go("walk", Run([(master, door) for door in way]))


def fetch(trail, master, hand, room):
    """Let the master, who stands beside the hand, lead it along the tree to the room."""
    trade, own = trail.standing.hands[hand]
    for door in way_between(trail.house, own, room):
        _, _, cycle = trail.house.doors[door]
        turns = letters_ahead(trail.house, trail.standing, door, len(cycle)).index(trade)
        deeds = [(master, door)] * turns + [(hand, door)]
        if turns % 2 == 0:
            # The master is still on this side of the door.
            deeds.append((master, door))
        trail.go("fetch", Run(deeds))


def fetched(house, standing, room):
    """Return the trail with which the first master leads all hands to the room."""
    trail = Trail(house, standing)
    master = trades_of(standing).index(MASTER)
    for hand, (trade, own) in enumerate(standing.hands):
        if trade != MASTER and own != room:
            walk_master(trail, master, own)
            fetch(trail, master, hand, room)
    for hand in hands_of(standing, MASTER):
        walk_master(trail, hand, room)
    return trail


def turning_doors(house, room, start, end):
    """Return a closed walk from the room that leads the places of the start to those of the end."""
    passes = steps_of(house, start, end)
    doors = closed_doors(house, room, passes)
    if doors is not None:
        return doors
    # The doors do not hang together with the room, so whole cycles of the tree doors join them.
    for door in tree_doors(house):
        if passes[door] == 0:
            passes[door] = len(house.doors[door][2])
    return closed_doors(house, room, passes)


def master_plan(house, start, end):
    """Return (run, None) with a master plan, or (None, least unlike room)."""
    need_fits(house, start)
    need_fits(house, end)
    need_same_hands(start, end)
    need_even(house)
    if MASTER not in trades_of(start):
        raise NoMaster("no hand is a master")
    unlike = unlike_room(house, start, end)
    if unlike is not None:
        return None, unlike
    room = fullest_room(house, start, end)
    house_back = turned_house(house)
    first = fetched(house, start, room)
    second = fetched(house_back, turned_standing(house, end), room)
    target = turned_standing(house_back, second.standing)
    master = trades_of(start).index(MASTER)
    walk = Run([(master, door) for door in turning_doors(house, room, first.standing, target)])
    back = -run_of(second.pieces)
    return run_of(first.pieces) + walk + back, None
