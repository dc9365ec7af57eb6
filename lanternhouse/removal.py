"""Removal: leading all hands from one room to another one with the least number of deeds."""

from lanternhouse.deeds import Run
from lanternhouse.gathering import need_red_and_blue_hands, need_together
from lanternhouse.house import need_rooms
from lanternhouse.pairs import letters_ahead
from lanternhouse.requirements import BLUE, RED, need_odd, need_tree, need_two_trades
from lanternhouse.standing import hands_of, need_fits
from lanternhouse.trees import way_between


def is_enough(letters, hands):
    """Tell whether so many letters of one trade can lead so many hands of it through a door."""
    return letters >= hands and (letters - hands) % 2 == 0


def shortest_stretch(cycle, place, reds, blues):
    """Return the shortest stretch of the cycle, from the place on, for so many reds and blues."""
    steps = 0
    red_letters = 0
    while not (is_enough(red_letters, reds) and is_enough(steps - red_letters, blues)):
        if cycle[(place + steps) % len(cycle)] == RED:
            red_letters += 1
        steps += 1
    return steps


def takers_of(hands, letters):
    """Return which hand takes each of so many letters, if they are enough for the hands."""
    # The letters that are left over are even in number, so the first hand
    # goes there and back with them.
    return [hands[0]] * (letters - len(hands)) + hands


def moving_deeds(house, standing, door):
    """Return as few deeds as possible that lead all hands, at one end of the door, to the other end."""
    reds, blues = hands_of(standing, RED), hands_of(standing, BLUE)
    _, _, cycle = house.doors[door]
    count = shortest_stretch(cycle, standing.places[door], len(reds), len(blues))
    letters = letters_ahead(house, standing, door, count)
    takers = {RED: takers_of(reds, letters.count(RED)), BLUE: takers_of(blues, letters.count(BLUE))}
    deeds = []
    for letter in letters:
        deeds.append((takers[letter].pop(0), door))
    return deeds


def removal(house, standing, room):
    """Return a run with the least number of deeds that leads all hands to the room."""
    need_fits(house, standing)
    need_rooms(house, [room])
    need_two_trades(house, standing)
    need_odd(house)
    need_tree(house)
    need_red_and_blue_hands(standing)
    need_together(standing, standing)
    _, own = standing.hands[0]
    # No door is on the way twice, so all places can be told from the start.
    return Run([
        deed
        for door in way_between(house, own, room)
        for deed in moving_deeds(house, standing, door)
    ])
