"""Closed walks through a house, for the other files."""

from lanternhouse.ways import neighbours_of


def sums_at_rooms(house, passes):
    """Return for each room the sum of the numbers of its doors."""
    sums = [0] * house.rooms
    for (first, second, _), number in zip(house.doors, passes):
        sums[first] += number
        sums[second] += number
    return sums


def closed_doors(house, room, passes):
    """Return the doors of a closed walk from the room with so many passes of each door, or None."""
    if any([amount % 2 == 1 for amount in sums_at_rooms(house, passes)]):
        return None
    around = neighbours_of(house)
    left = list(passes)
    # The walk goes on as long as a door is left, and then backs out, taking
    # down the doors; where doors are left on the way back, it goes on again.
    ahead = [(room, None)]
    doors = []
    while len(ahead) > 0:
        own, last = ahead[-1]
        free = [(door, behind) for door, behind in around[own] if left[door] > 0]
        if len(free) > 0:
            door, behind = free[0]
            left[door] -= 1
            ahead.append((behind, door))
        else:
            ahead.pop()
            doors.append(last)
    # The first room, which no door leads to, is taken down last.
    doors.pop()
    return doors if sum(left) == 0 else None
