"""Ledgers: numbers that no deed of an even house changes."""

from lanternhouse.errors import UnknownPart
from lanternhouse.house import has_door, need_rooms
from lanternhouse.requirements import need_same_hands, need_tree
from lanternhouse.standing import need_fits
from lanternhouse.trees import rooms_outward, tree_doors, way_between


def ledgers_with(house, hands, places):
    """Return the list of the ledgers of the rooms for these hands and places."""
    sums = [0] * house.rooms
    for _, room in hands:
        sums[room] += 1
    for (first, second, _), place in zip(house.doors, places):
        sums[first] += place
        sums[second] += place
    return [amount % 2 for amount in sums]


def ledgers_of(house, standing):
    """Return the list of the ledgers of the rooms."""
    need_fits(house, standing)
    return ledgers_with(house, standing.hands, standing.places)


def ledger_of(house, standing, rooms):
    """Return the ledger of the set of the listed rooms."""
    need_fits(house, standing)
    need_rooms(house, rooms)
    ledgers = ledgers_of(house, standing)
    # A door with both ends in the set adds its place twice, which changes nothing.
    return sum([ledgers[room] for room in sorted(set(rooms))]) % 2


def unlike_room(house, start, end):
    """Return the least room whose ledgers differ, or None."""
    first, second = ledgers_of(house, start), ledgers_of(house, end)
    return min([room for room in range(house.rooms) if first[room] != second[room]], default=None)


def crossing_hands(house, start, end):
    """Return for each door the ascending list of the hands that cross it, in a tree."""
    crossing = [[] for _ in house.doors]
    for hand, ((_, first), (_, last)) in enumerate(zip(start.hands, end.hands)):
        for door in way_between(house, first, last):
            crossing[door].append(hand)
    return crossing


def crossings(house, start, end):
    """Return a list with the number of hands that cross each door."""
    need_fits(house, start)
    need_fits(house, end)
    need_same_hands(start, end)
    need_tree(house)
    return [len(hands) for hands in crossing_hands(house, start, end)]


def need_ring_doors(house, doors):
    """Raise UnknownPart if one of the listed doors is no ring door of the house."""
    tree = tree_doors(house)
    for door in doors:
        if not has_door(house, door) or door in tree:
            raise UnknownPart(f"there is no ring door {door}")


def settings_for(house, hands, wanted, *, odd_rings=()):
    """Return the setting with the wanted ledgers, a list of 0 and 1, or None."""
    need_ring_doors(house, odd_rings)
    settings = [1 if door in odd_rings else 0 for door in range(len(house.doors))]
    given = ledgers_with(house, hands, settings)
    missing = [(have + want) % 2 for have, want in zip(given, wanted)]
    # An outer room can get what it misses only from the door to the room before it.
    for room, door, before in rooms_outward(house)[::-1]:
        settings[door] = missing[room]
        missing[before] = (missing[before] + missing[room]) % 2
    return settings if missing[0] == 0 else None
