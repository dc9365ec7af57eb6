"""Trails: runs that are put together from pieces, for the other files.

A piece is a pair (name, run). The names of the pieces of a plan are those that
the document lists; other names only tell a reader what the run is for.
"""

from lanternhouse.deeds import Run, replay
from lanternhouse.pairs import carry_deeds, travel_deeds, turn_deeds, walk_deeds
from lanternhouse.trees import way_between


class Trail:
    """A standing that changes, and the pieces that have led to it."""

    def __init__(self, house, standing):
        self.house = house
        self.standing = standing
        self.pieces = []

    def go(self, name, run):
        """Replay the run and keep it as a piece, unless it is empty."""
        if len(run) > 0:
            self.standing = replay(self.house, self.standing, run)
            self.pieces.append((name, run))

    def room_of(self, hand):
        """Return the room in which the hand stands now."""
        _, room = self.standing.hands[hand]
        return room

    def steps_to(self, door, place):
        """Return how many steps lead the door to the place, less than its letters."""
        _, _, cycle = self.house.doors[door]
        return (place - self.standing.places[door]) % len(cycle)

    def travel(self, pair, room):
        """Let the pair travel to the room."""
        self.go("travel", Run(travel_deeds(self.house, self.standing, pair, room)))

    def turn(self, pair, door, steps):
        """Let the pair travel to the door and turn it by an even number of steps."""
        first, second, _ = self.house.doors[door]
        if self.room_of(pair[0]) != second:
            self.travel(pair, first)
        self.go("turn", Run(turn_deeds(self.house, self.standing, pair, door, steps)))

    def carry(self, pair, hand, door, steps):
        """Let the pair carry the hand out of their room, by an odd number of steps, and follow it."""
        self.go("carry", Run(carry_deeds(self.house, self.standing, pair, hand, door, steps)))
        self.go("travel", Run(walk_deeds(self.house, self.standing, pair, door)))

    def lead(self, pair, hand, room):
        """Let the pair travel to the hand and lead it along the tree to the room."""
        self.travel(pair, self.room_of(hand))
        for door in way_between(self.house, self.room_of(hand), room):
            self.carry(pair, hand, door, 1)


def run_of(pieces):
    """Return the run that has the deeds of the pieces, one after the other."""
    return Run([deed for _, run in pieces for deed in run])


def reversed_pieces(pieces):
    """Return the pieces that lead back, in the house turned back."""
    return [("part" if name == "meet" else name, -run) for name, run in pieces[::-1]]
