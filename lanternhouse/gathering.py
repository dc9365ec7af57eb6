"""Gathering all hands in one room, and settling there what the places have to be."""

from lanternhouse.errors import NoPair, NotTogether
from lanternhouse.house import need_rooms
from lanternhouse.ledgers import unlike_room
from lanternhouse.meeting import first_meeting
from lanternhouse.reach import need_live, rooms_of
from lanternhouse.requirements import (
    BLUE, RED, need_like_standings, need_odd, need_tree_or_three_hands, need_two_trades,
)
from lanternhouse.standing import need_fits, trades_of
from lanternhouse.trails import Trail, run_of
from lanternhouse.trees import tree_doors


def gathered(house, standing, room):
    """Return the trail that leads all hands of a live standing to the room."""
    trail = Trail(house, standing)
    red, blue, run = first_meeting(house, standing)
    trail.go("meet", run)
    pair = (red, blue)
    for hand in range(len(standing.hands)):
        if hand not in pair and trail.room_of(hand) != room:
            trail.lead(pair, hand, room)
    trail.travel(pair, room)
    return trail


def settled(house, start, end):
    """Return the trail between two standings whose hands are all in one room.

    All ledgers are equal, and the house is a tree or there are three hands.
    """
    trail = Trail(house, start)
    trades = trades_of(start)
    pair = (trades.index(RED), trades.index(BLUE))
    room = trail.room_of(pair[0])
    turn_rings(trail, pair, end)
    # Every ring door has to be turned by an even number of steps now, and so
    # has every tree door, as the ledgers are equal.
    for door, place in enumerate(end.places):
        steps = trail.steps_to(door, place)
        if steps > 0:
            trail.turn(pair, door, steps)
    trail.travel(pair, room)
    return trail


def turn_rings(trail, pair, end):
    """Bring the ring doors that need an odd number of steps to their places at the end.

    The pair leads a third hand through these doors and back to its room.
    """
    house, start = trail.house, trail.standing
    tree = tree_doors(house)
    odd_doors = [door for door, place in enumerate(end.places) if trail.steps_to(door, place) % 2 == 1]
    odd_rings = [door for door in odd_doors if door not in tree]
    if len(odd_rings) == 0:
        return
    third = min([hand for hand in range(len(start.hands)) if hand not in pair])
    room = trail.room_of(third)
    for door in odd_rings:
        first, _, _ = house.doors[door]
        trail.lead(pair, third, first)
        trail.carry(pair, third, door, trail.steps_to(door, end.places[door]))
    trail.lead(pair, third, room)


def need_red_and_blue_hands(standing):
    """Raise NoPair if there is no red or no blue."""
    if len(rooms_of(standing, RED)) == 0 or len(rooms_of(standing, BLUE)) == 0:
        raise NoPair("there is no red or no blue")


def need_together(start, end):
    """Raise NotTogether if not all hands of both standings stand in one and the same room."""
    if len({room for _, room in start.hands + end.hands}) > 1:
        raise NotTogether("the hands do not all stand in one room")


def gather(house, standing, room):
    """Return a run that leads all hands to the room."""
    need_fits(house, standing)
    need_rooms(house, [room])
    need_two_trades(house, standing)
    need_odd(house)
    need_live(house, standing)
    return run_of(gathered(house, standing, room).pieces)


def settle(house, start, end):
    """Return (run, None) with a run from the start to the end, or (None, least unlike room)."""
    need_like_standings(house, start, end)
    need_odd(house)
    need_tree_or_three_hands(house, start)
    need_red_and_blue_hands(start)
    need_together(start, end)
    room = unlike_room(house, start, end)
    if room is not None:
        return None, room
    return run_of(settled(house, start, end).pieces), None
