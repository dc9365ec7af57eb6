"""The search for cheapest ways through a house, for the other files.

A list of costs has one entry for each door of the house: what it costs to go
through the door, an integer of at least 0, or None if the door is shut.
"""

from heapq import heappop, heappush


def far_end(house, door, room):
    """Return the end of the door that is not the room, which is the other end."""
    first, second, _ = house.doors[door]
    return second if room == first else first


def neighbours_of(house):
    """Return a list with the pairs (door, room behind it) for each room."""
    around = [[] for _ in range(house.rooms)]
    for door, (first, second, _) in enumerate(house.doors):
        around[first].append((door, second))
        around[second].append((door, first))
    return around


def ways_from(house, costs, rooms):
    """Search the cheapest ways that begin in one of the listed rooms.

    Return two dicts over the rooms that can be walked to: the cost of a
    cheapest way to the room, and the last door of such a way. Rooms in which
    a way begins have no last door. A room comes later in the first dict than
    the room before it on its way if there is only one way.
    """
    around = neighbours_of(house)
    # The rooms are sorted because a sorted list is a heap already.
    cost_to = {room: 0 for room in sorted(rooms)}
    door_to = {}
    queue = [(0, room) for room in cost_to]
    while queue:
        cost, room = heappop(queue)
        if cost > cost_to[room]:
            continue
        for door, behind in around[room]:
            if costs[door] is None:
                continue
            total = cost + costs[door]
            if behind not in cost_to or total < cost_to[behind]:
                cost_to[behind] = total
                door_to[behind] = door
                heappush(queue, (total, behind))
    return cost_to, door_to


def way_to(house, door_to, room):
    """Return the room in which the way to the room begins, and its doors in order."""
    doors = []
    while room in door_to:
        door = door_to[room]
        doors.append(door)
        room = far_end(house, door, room)
    return room, doors[::-1]


def cheapest_meeting(house, first_rooms, second_rooms, first_costs, second_costs):
    """Find a room to which two ways lead that cost as little as possible together.

    The first way begins in one of the first rooms and costs what the first
    costs say, the second way likewise. Return a triple of the cost and the
    two ways, each as way_to returns it, or None if no two ways meet.
    """
    first_to, first_door_to = ways_from(house, first_costs, first_rooms)
    second_to, second_door_to = ways_from(house, second_costs, second_rooms)
    totals = [(first_to[room] + second_to[room], room) for room in first_to if room in second_to]
    if len(totals) == 0:
        return None
    cost, room = min(totals)
    return cost, way_to(house, first_door_to, room), way_to(house, second_door_to, room)


def walking_costs(lights, light):
    """Return costs with which only the doors with the light can be gone through."""
    return [1 if own == light else None for own in lights]
