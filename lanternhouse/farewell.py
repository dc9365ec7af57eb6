"""Farewells: the longest runs of the hands of one trade in a dead standing of a tree.

The doors are looked at one after the other, from the outer rooms to room 0.
What can happen beyond a room is told by a table from states to the best that
leads to each of them. A state is a pair (amount, bond). The amount is the
number of hands of the trade that end in the room, less those that still have
to come from the room before it. The bond tells what the room hangs together
with by the doors beyond it that are passed. The best is a pair (total, passes)
of a number of deeds and a list of tuples (door, source, flow, number): the
door is passed so many times, and of these as many hands more as the flow says
come from the source, one of its ends, than from its other end.
"""

from lanternhouse.deeds import Run
from lanternhouse.house import cycles_of, need_trade
from lanternhouse.quiet import quiet_deeds
from lanternhouse.reach import need_dead, rooms_of
from lanternhouse.requirements import need_tree, need_two_trades
from lanternhouse.standing import Standing, need_fits
from lanternhouse.trees import rooms_outward
from lanternhouse.ways import far_end

# The bonds: a room without a door that is passed and without a hand, a room
# with such doors but without a hand to pass them so far, and one with a hand
# that is there from the beginning.
ALONE = 0
WAITING = 1
HELD = 2


def rests_of(house, standing, trade):
    """Return the list of the rests of the doors for the trade."""
    turned = [cycle[place:] + cycle[:place] for cycle, place in zip(cycles_of(house), standing.places)]
    return [len(cycle) - len(cycle.lstrip(trade)) for cycle in turned]


def keep_best(table, state, total, passes):
    """Enter the total and its passes for the state, unless the table has as much for it."""
    if state not in table or table[state][0] < total:
        table[state] = (total, passes)


def table_behind(table, link, rest):
    """Return the table of a room as the room before it sees it.

    The link is the triple of the room, the door with this rest, and the room
    before. The amounts of the new table are the hands that come to the latter.
    """
    room, door, before = link
    behind = {}
    for (amount, bond), (total, passes) in table.items():
        for flow in range(-rest, min(rest, amount) + 1):
            number = rest - (rest - flow) % 2
            source = room if flow > 0 else before
            if number > 0:
                passed = passes + [(door, source, abs(flow), number)]
                keep_best(behind, (flow, max(bond, WAITING)), total + number, passed)
        if amount >= 0 and bond != WAITING:
            keep_best(behind, (0, ALONE), total, passes)
    return behind


def joined_table(table, behind):
    """Return the table of a room together with what is behind one door more."""
    joined = {}
    for (amount, bond), (total, passes) in table.items():
        for (flow, other), (more, others) in behind.items():
            state = (amount + flow, max(bond, other))
            keep_best(joined, state, total + more, passes + others)
    return joined


def best_of(house, standing, trade):
    """Return the farewell of the trade and the passes of a run with so many deeds."""
    rests = rests_of(house, standing, trade)
    rooms = rooms_of(standing, trade)
    tables = [
        {(rooms.count(room), HELD if room in rooms else ALONE): (0, [])}
        for room in range(house.rooms)
    ]
    for room, door, before in rooms_outward(house)[::-1]:
        behind = table_behind(tables[room], (room, door, before), rests[door])
        tables[before] = joined_table(tables[before], behind)
    return max([
        best for (amount, bond), best in tables[0].items() if amount >= 0 and bond != WAITING
    ])


def moved_hands(house, hands, trade, passes):
    """Return the hands after the flows of the passes, for which any hands of the trade are taken."""
    hands = list(hands)
    moves = [(door, source) for door, source, flow, _ in passes for _ in range(flow)]
    # A move whose source has no hand yet waits behind the others. No flows go
    # round in a tree, so some hand can move as long as moves are left.
    while len(moves) > 0:
        door, source = moves.pop(0)
        if (trade, source) in hands:
            hands[hands.index((trade, source))] = (trade, far_end(house, door, source))
        else:
            moves.append((door, source))
    return hands


def need_farewell_parts(house, standing, trade):
    """Check all requirements of a farewell."""
    need_fits(house, standing)
    need_trade(house, trade)
    need_two_trades(house, standing)
    need_tree(house)
    need_dead(house, standing)


def farewell(house, standing, trade):
    """Return a run of the hands of the trade with as many deeds as its farewell."""
    need_farewell_parts(house, standing, trade)
    _, passes = best_of(house, standing, trade)
    places = list(standing.places)
    for door, _, _, number in passes:
        places[door] = (places[door] + number) % len(house.doors[door][2])
    # All these passes have the light of the trade, so a quiet run makes them.
    end = Standing(moved_hands(house, standing.hands, trade, passes), places)
    return Run(quiet_deeds(house, standing, end))


def farewell_count(house, standing, trade):
    """Return the farewell of the trade."""
    need_farewell_parts(house, standing, trade)
    total, _ = best_of(house, standing, trade)
    return total
