"""Canonical standings and crew plans, in houses with many trades.

The root is the room of the crew, and holds all hands that no other room must
hold. The others are the hands that are not of the crew.
"""

from lanternhouse.deeds import Run
from lanternhouse.errors import NoCrew, TooFewHands, UnlikeHands
from lanternhouse.guilds import crew_of, crew_walk_deeds, exchange_deeds, odd_trades, unlike_trades, without_first
from lanternhouse.house import doors_at, longest_cycle, need_rooms
from lanternhouse.mirror import turned_house, turned_standing
from lanternhouse.pairs import letters_ahead
from lanternhouse.requirements import need_no_masters, need_odd
from lanternhouse.standing import need_fits, trades_of
from lanternhouse.trails import Trail, run_of
from lanternhouse.trees import rooms_outward, tree_doors, way_between
from lanternhouse.ways import far_end


def crew_bound(house, hands):
    """Return the crew bound for so many hands."""
    rooms, doors, longest = house.rooms, len(house.doors), longest_cycle(house)
    return 2 * (rooms - 1) * (hands + 4) * longest * (rooms + 2 + doors * longest)


def is_canonical(house, standing, room):
    """Tell whether the standing is canonical for the room as its root."""
    need_fits(house, standing)
    need_rooms(house, [room])
    need_no_masters(standing)
    if any([standing.places[door] != 0 for door in tree_doors(house)]):
        return False
    outside = [(trade, own) for trade, own in standing.hands if own != room]
    if house.trades[0] in [trade for trade, _ in outside]:
        return False
    return len(set(outside)) == len(outside)


def others_in(trail, crew, room, trade):
    """Return the ascending list of the others of the trade in the room."""
    return [
        hand for hand, own in enumerate(trail.standing.hands)
        if own == (trade, room) and hand not in crew
    ]


def other_letters_in(trail, crew, room):
    """Return the list of the trades of the others in the room, one for each hand."""
    return [
        trade for hand, (trade, own) in enumerate(trail.standing.hands)
        if own == room and hand not in crew
    ]


def go_exchange(trail, crew, movers, door, steps):
    """Let the crew exchange the movers through the door, where this is possible."""
    deeds = exchange_deeds(trail.house, trail.standing, crew, movers, door, steps)
    trail.go("exchange", Run(deeds))


def go_crew_walk(trail, crew, door):
    """Let the crew walk through the door."""
    trail.go("walk", Run(crew_walk_deeds(trail.house, trail.standing, crew, door)))


def crew_way(trail, crew, room):
    """Return the way from the crew to the room."""
    return way_between(trail.house, trail.room_of(crew[0]), room)


def thin_out(trail, crew, link):
    """Lead pairs of others of one trade to the room before, until at most one of each is left.

    The link is the triple of the room, the door between the two, and the room before.
    """
    room, door, before = link
    movers = []
    for trade in trail.house.trades:
        hands = others_in(trail, crew, room, trade)
        movers.extend(hands[len(hands) % 2:])
    if len(movers) > 0:
        for passed in crew_way(trail, crew, before):
            go_crew_walk(trail, crew, passed)
        go_exchange(trail, crew, movers, door, 0)


def refill(trail, crew, door, place):
    """Lead a door of the root to the place, and give the room behind it the hands that it must hold then.

    This room holds at most one other of each trade, and the root at least one.
    """
    house = trail.house
    root = trail.room_of(crew[0])
    behind = far_end(house, door, root)
    steps = trail.steps_to(door, place)
    letters = letters_ahead(house, trail.standing, door, steps)
    kept = without_first(house, odd_trades(house, letters + other_letters_in(trail, crew, behind)))
    movers = []
    for trade in house.trades:
        hands = others_in(trail, crew, behind, trade)
        if trade not in kept:
            movers.extend(hands)
        elif len(hands) == 0:
            movers.append(others_in(trail, crew, root, trade)[0])
    go_exchange(trail, crew, movers, door, steps)


def move_root(trail, crew, door):
    """Lead the crew and all others through the door, but for those that the room must hold."""
    house = trail.house
    root = trail.room_of(crew[0])
    kept = without_first(house, odd_trades(house, other_letters_in(trail, crew, root)))
    movers = []
    for trade in house.trades:
        hands = others_in(trail, crew, root, trade)
        movers.extend(hands[1:] if trade in kept else hands)
    go_exchange(trail, crew, movers, door, 0)
    go_crew_walk(trail, crew, door)


def move_root_to(trail, crew, room):
    """Move the root along the tree to the room."""
    for door in crew_way(trail, crew, room):
        move_root(trail, crew, door)


def take_back(trail, crew, last):
    """Take back all rooms beyond the root, but for those behind the last door, and return to the root."""
    tree = tree_doors(trail.house)
    root = trail.room_of(crew[0])
    for door in doors_at(trail.house, root):
        if door in tree and door != last:
            refill(trail, crew, door, 0)
            move_root(trail, crew, door)
            take_back(trail, crew, door)
            move_root(trail, crew, door)


def canonical_trail(house, standing, room):
    """Return the trail that leads to a canonical standing for the room as its root, and its crew."""
    trail = Trail(house, standing)
    crew = crew_of(house, standing)
    for link in rooms_outward(house, room)[::-1]:
        thin_out(trail, crew, link)
    for door in crew_way(trail, crew, room):
        go_crew_walk(trail, crew, door)
    take_back(trail, crew, None)
    return trail, crew


def turn_rings(trail, crew, places):
    """Lead all ring doors to their places, from a canonical standing to one for the same root."""
    house = trail.house
    root = trail.room_of(crew[0])
    tree = tree_doors(house)
    for door, (first, _, _) in enumerate(house.doors):
        # The tree doors are at place 0, and stay there.
        if door not in tree and trail.steps_to(door, places[door]) > 0:
            move_root_to(trail, crew, first)
            refill(trail, crew, door, places[door])
    move_root_to(trail, crew, root)


def matched_hands(standing, other):
    """Return for each hand of the standing a hand of the other one with its trade, in its room."""
    left = list(other.hands)
    matched = []
    for own in standing.hands:
        hand = left.index(own)
        matched.append(hand)
        left[hand] = None
    return matched


def need_enough_of_each(house, standing):
    """Raise TooFewHands if some trade has not more hands than the house has rooms, one if there is one room."""
    enough = 1 if house.rooms == 1 else house.rooms + 1
    if any([trades_of(standing).count(trade) < enough for trade in house.trades]):
        raise TooFewHands(f"some trade has less than {enough} hands")


def need_a_crew(house, standing):
    """Raise NoCrew if the standing has no crew."""
    if crew_of(house, standing) is None:
        raise NoCrew("no room holds a hand of each trade")


def canonical_run(house, standing, room):
    """Return a run to a canonical standing for the room as its root."""
    need_fits(house, standing)
    need_rooms(house, [room])
    need_no_masters(standing)
    need_odd(house)
    need_enough_of_each(house, standing)
    need_a_crew(house, standing)
    trail, _ = canonical_trail(house, standing, room)
    return run_of(trail.pieces)


def need_crew_plan_parts(house, start, end):
    """Check all requirements of a crew plan."""
    need_fits(house, start)
    need_fits(house, end)
    if sorted(trades_of(start)) != sorted(trades_of(end)):
        raise UnlikeHands("the two standings have other numbers of hands of a trade")
    need_no_masters(start)
    need_odd(house)
    need_enough_of_each(house, start)
    need_a_crew(house, start)
    need_a_crew(house, end)


def crew_plan(house, start, end):
    """Return (run, None) with a crew plan, or (None, least room whose trade ledgers differ)."""
    need_crew_plan_parts(house, start, end)
    unlike = unlike_trades(house, start, end)
    if unlike is not None:
        return None, unlike
    _, root = start.hands[crew_of(house, start)[0]]
    first, crew = canonical_trail(house, start, root)
    turn_rings(first, crew, end.places)
    second, _ = canonical_trail(turned_house(house), turned_standing(house, end), root)
    # The two have the same census now, but other hands of a trade may stand in a room.
    matched = matched_hands(second.standing, first.standing)
    back = -run_of(second.pieces)
    return run_of(first.pieces) + Run([(matched[hand], door) for hand, door in back]), None
