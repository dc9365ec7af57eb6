"""Trees and rings: the tree doors of a house, and ways and rings over them."""

from lanternhouse.house import need_doors, need_rooms
from lanternhouse.ways import far_end, way_to, ways_from


def tree_doors(house):
    """Return the ascending list of the tree doors."""
    # Two rooms have the same mark if a chain of the tree doors so far joins them.
    marks = list(range(house.rooms))
    doors = []
    for door, (first, second, _) in enumerate(house.doors):
        old, new = marks[first], marks[second]
        if old != new:
            doors.append(door)
            marks = [new if mark == old else mark for mark in marks]
    return doors


def tree_costs(house):
    """Return costs with which only the tree doors can be gone through."""
    doors = tree_doors(house)
    return [1 if door in doors else None for door in range(len(house.doors))]


def rooms_outward(house, inmost=0):
    """Return a triple (room, door, room before) for every room but the inmost one.

    The door is the last one on the way from the inmost room to the room, and leads
    to it from the room before. Each room comes after the room before it.
    """
    cost_to, door_to = ways_from(house, tree_costs(house), [inmost])
    return [(room, door_to[room], far_end(house, door_to[room], room)) for room in list(cost_to)[1:]]


def way_between(house, first, last):
    """Return the way from the first room to the last one, a list of tree doors."""
    need_rooms(house, [first, last])
    _, door_to = ways_from(house, tree_costs(house), [first])
    _, doors = way_to(house, door_to, last)
    return doors


def ring_of(house, door):
    """Return the ring of the door, an empty list for a tree door."""
    need_doors(house, [door])
    if door in tree_doors(house):
        return []
    first, second, _ = house.doors[door]
    return [door] + way_between(house, second, first)


def room_distance(house, first, last):
    """Return the least number of doors of any kind between the two rooms."""
    need_rooms(house, [first, last])
    cost_to, _ = ways_from(house, [1] * len(house.doors), [first])
    return cost_to[last]
