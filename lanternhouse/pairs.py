"""The pair: a red and a blue that go together, turn doors and carry other hands."""

from lanternhouse.deeds import Run
from lanternhouse.errors import BadSteps, NoPair, NotThere
from lanternhouse.house import need_doors, need_rooms
from lanternhouse.requirements import BLUE, RED, need_odd, need_two_trades
from lanternhouse.standing import need_fits, need_hands
from lanternhouse.trees import way_between


def letters_ahead(house, standing, door, count):
    """Return the list of as many letters of the door's cycle, from its place on."""
    cycle, place = house.doors[door][2], standing.places[door]
    return [cycle[(place + step) % len(cycle)] for step in range(count)]


def pair_deeds(house, standing, pair, door, count):
    """Return the deeds with which the pair takes so many letters of the door."""
    red, blue = pair
    letters = letters_ahead(house, standing, door, count)
    return [(red if letter == RED else blue, door) for letter in letters]


def walk_deeds(house, standing, pair, door):
    """Return the deeds of a pair walk."""
    return pair_deeds(house, standing, pair, door, len(house.doors[door][2]))


def travel_deeds(house, standing, pair, room):
    """Return the deeds of a pair travel."""
    red, _ = pair
    _, own = standing.hands[red]
    # A walk leaves the place of its door as it is, so each deed can be told from the start.
    return [
        deed
        for door in way_between(house, own, room)
        for deed in walk_deeds(house, standing, pair, door)
    ]


def turn_deeds(house, standing, pair, door, steps):
    """Return the deeds of an even turn by so many steps, whole cycles left out."""
    length = len(house.doors[door][2])
    count = steps % length
    # The number of letters is even, so both of the pair went an odd number of
    # times if one did; a whole cycle more makes both numbers even.
    if letters_ahead(house, standing, door, count).count(RED) % 2 == 1:
        count += length
    return pair_deeds(house, standing, pair, door, count)


def carry_deeds(house, standing, pair, hand, door, steps):
    """Return the deeds of a carry by so many steps, whole cycles left out."""
    length = len(house.doors[door][2])
    count = steps % length
    trade, _ = standing.hands[hand]
    # The hand takes one letter of its trade, and the pair an even number of
    # each trade: so the letters of its trade have to be odd in number, which
    # a whole cycle more makes of an even number.
    if letters_ahead(house, standing, door, count).count(trade) % 2 == 0:
        count += length
    deeds = pair_deeds(house, standing, pair, door, count)
    first = letters_ahead(house, standing, door, count).index(trade)
    deeds[first] = (hand, door)
    return deeds


def need_pair(standing, pair):
    """Raise NoPair if the pair is not a red and a blue in one room."""
    red, blue = pair
    (red_trade, red_room), (blue_trade, blue_room) = standing.hands[red], standing.hands[blue]
    if red_trade != RED or blue_trade != BLUE or red_room != blue_room:
        raise NoPair("the pair is not a red and a blue in one room")


def need_end_of(house, door, room):
    """Raise NotThere if the room is no end of the door."""
    first, second, _ = house.doors[door]
    if room not in (first, second):
        raise NotThere(f"room {room} is no end of door {door}")


def need_pair_at_door(house, standing, pair, door):
    """Check the requirements that walks, turns and carries share."""
    need_fits(house, standing)
    need_hands(standing, pair)
    need_doors(house, [door])
    need_two_trades(house, standing)
    need_odd(house)
    need_pair(standing, pair)
    _, room = standing.hands[pair[0]]
    need_end_of(house, door, room)


def pair_walk(house, standing, pair, door):
    """Return the run of a pair walk through the door."""
    need_pair_at_door(house, standing, pair, door)
    return Run(walk_deeds(house, standing, pair, door))


def pair_travel(house, standing, pair, room):
    """Return the run of a pair travel to the room."""
    need_fits(house, standing)
    need_hands(standing, pair)
    need_rooms(house, [room])
    need_two_trades(house, standing)
    need_odd(house)
    need_pair(standing, pair)
    return Run(travel_deeds(house, standing, pair, room))


def even_turn(house, standing, pair, door, steps):
    """Return the run of an even turn of the door."""
    need_pair_at_door(house, standing, pair, door)
    if steps < 0 or steps % 2 == 1:
        raise BadSteps("an even turn has an even number of steps, at least 0")
    return Run(turn_deeds(house, standing, pair, door, steps))


def carry(house, standing, pair, hand, door, *, steps=1):
    """Return the run with which the pair carries the hand through the door."""
    need_fits(house, standing)
    need_hands(standing, [hand])
    need_pair_at_door(house, standing, pair, door)
    if hand in pair:
        raise NotThere(f"hand {hand} is of the pair")
    _, room = standing.hands[hand]
    need_end_of(house, door, room)
    if steps < 1 or steps % 2 == 0:
        raise BadSteps("a carry has an odd number of steps, at least 1")
    return Run(carry_deeds(house, standing, pair, hand, door, steps))
