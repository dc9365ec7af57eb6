"""Shortest stretches and removal: points 61 and 62, and point 17 for lanternhouse/removal.py."""

import random
import unittest

from lanternhouse.deeds import Run
from lanternhouse.errors import (
    InvalidStanding, NoPair, NotOdd, NotTogether, NotTree, UnknownPart, WrongTrades,
)
from lanternhouse.house import House
from lanternhouse.removal import removal, shortest_stretch
from lanternhouse.standing import Standing

from broken import check_requirements, no_tree, not_odd, other_trades, parts_of, replaced, unfit, with_masters
from support import odd_cycle, odd_house, random_standing, slow_reached, slow_replay, slow_way

CHAIN = House(3, [(0, 1, "RB"), (1, 2, "RRRB")])


def slow_stretch(cycle, place, reds, blues):
    """Try all k, each from the start."""
    k = 0
    while True:
        letters = [cycle[(place + step) % len(cycle)] for step in range(k)]
        counts = letters.count("R"), letters.count("B")
        enough = counts[0] >= reds and counts[1] >= blues
        if enough and counts[0] % 2 == reds % 2 and counts[1] % 2 == blues % 2:
            return k
        k += 1


class Stretches(unittest.TestCase):

    def test_by_hand(self):
        self.assertEqual(shortest_stretch("RRRB", 0, 1, 1), 4)
        self.assertEqual(shortest_stretch("RRRB", 2, 1, 1), 2)
        self.assertEqual([shortest_stretch("RRRB", place, 1, 1) for place in range(4)], [4, 4, 2, 2])
        self.assertEqual(shortest_stretch("RB", 0, 1, 0), 1)
        self.assertEqual(shortest_stretch("RB", 1, 1, 0), 3)
        self.assertEqual(shortest_stretch("RB", 0, 0, 1), 3)

    def test_nothing(self):
        for cycle in ("RB", "BR", "RRRB", "RBBB", "RRRRRRRRRRRB"):
            for place in range(len(cycle)):
                self.assertEqual(shortest_stretch(cycle, place, 0, 0), 0)

    def test_two_letters(self):
        for cycle in ("RB", "BR"):
            for place in (0, 1):
                for reds in list(range(5)) + [39, 40]:
                    for blues in list(range(5)) + [39, 40]:
                        wanted = slow_stretch(cycle, place, reds, blues)
                        self.assertEqual(shortest_stretch(cycle, place, reds, blues), wanted)

    def test_every_place(self):
        rng = random.Random(310)
        for longest in (4, 6, 8, 12):
            for _ in range(8):
                cycle = odd_cycle(rng, longest)
                for place in range(len(cycle)):
                    for reds, blues in ((0, 1), (1, 0), (1, 1), (0, 2), (2, 3), (rng.randint(0, 12), rng.randint(0, 12))):
                        wanted = slow_stretch(cycle, place, reds, blues)
                        self.assertEqual(shortest_stretch(cycle, place, reds, blues), wanted)

    def test_many(self):
        for cycle in ("RRRRRRRRRRRB", "BBBBBBBRBBBB", "RBRBRB", "RB"):
            for reds, blues in ((40, 40), (40, 0), (0, 40), (40, 1), (39, 2)):
                for place in (0, 1, len(cycle) - 1):
                    wanted = slow_stretch(cycle, place, reds, blues)
                    self.assertEqual(shortest_stretch(cycle, place, reds, blues), wanted)


class Removal(unittest.TestCase):

    def check_removal(self, house, standing, room):
        run = removal(house, standing, room)
        self.assertIsInstance(run, Run)
        end = slow_replay(house, standing, run)
        self.assertEqual(end.hands, tuple((trade, room) for trade, _ in standing.hands))
        trades = [trade for trade, _ in standing.hands]
        wanted = sum(
            slow_stretch(house.doors[door][2], standing.places[door], trades.count("R"), trades.count("B"))
            for door in slow_way(house, standing.hands[0][1], room)
        )
        self.assertEqual(len(run), wanted)
        return run

    def together(self, rng, house, trades):
        room = rng.randrange(house.rooms)
        trades = list(trades)
        rng.shuffle(trades)
        return Standing([(trade, room) for trade in trades], random_standing(rng, house, 0).places)

    def test_the_sum_over_the_way(self):
        rng = random.Random(311)
        for _ in range(150):
            house = odd_house(rng, rng.randint(1, 7), 0, longest=rng.choice([2, 6, 12]))
            trades = "RB" + "".join(rng.choice("RB") for _ in range(rng.randint(0, 6)))
            standing = self.together(rng, house, trades)
            for room in range(house.rooms):
                self.check_removal(house, standing, room)

    def test_the_least_number(self):
        rng = random.Random(312)
        for _ in range(60):
            house = odd_house(rng, rng.randint(2, 3), 0, longest=4)
            standing = self.together(rng, house, rng.choice(["RB", "RRB", "RBB"]))
            found = slow_reached(house, standing)
            for room in range(house.rooms):
                hands = tuple((trade, room) for trade, _ in standing.hands)
                least = min(steps for (_, own, _), steps in found.items() if own == hands)
                self.assertEqual(len(self.check_removal(house, standing, room)), least)

    def test_the_room_where_they_stand(self):
        standing = Standing([("B", 1), ("R", 1)], [1, 3])
        self.assertEqual(self.check_removal(CHAIN, standing, 1).deeds, ())
        self.assertEqual(self.check_removal(House(1, []), Standing([("B", 0), ("R", 0)], []), 0).deeds, ())

    def test_many_reds_and_one_blue(self):
        rng = random.Random(313)
        for trades in ("R" * 39 + "B", "R" + "B" * 39, "R" * 12 + "B", "R" * 20 + "B" * 20):
            house = odd_house(rng, 16, 0, longest=12)
            standing = self.together(rng, house, trades)
            for room in range(house.rooms):
                self.check_removal(house, standing, room)

    def test_requirements(self):
        def no_blue(parts):
            parts["standing"][0] = [("R", room) for _, room in parts["standing"][0]]

        def no_red(parts):
            parts["standing"][0] = [("B", room) for _, room in parts["standing"][0]]

        def apart(parts):
            hands = parts["standing"][0]
            hands[-1] = (hands[-1][0], 2)

        parts = parts_of(CHAIN, standing=Standing([("R", 0), ("B", 0), ("R", 0)], [1, 2]), room=2)
        for room in (-1, 3, 999999999, -999999999):
            for break_trades in (other_trades, with_masters):
                check_requirements(self, removal, ["standing", "room"], parts, [
                    (InvalidStanding, unfit("standing")),
                    (UnknownPart, replaced("room", room)),
                    (WrongTrades, break_trades),
                    (NotOdd, not_odd),
                    (NotTree, no_tree),
                    (NotTogether, apart),
                ])
        for no_pair in (no_blue, no_red):
            check_requirements(self, removal, ["standing", "room"], parts, [
                (InvalidStanding, unfit("standing")),
                (UnknownPart, replaced("room", 3)),
                (WrongTrades, other_trades),
                (NotOdd, not_odd),
                (NotTree, no_tree),
                (NoPair, no_pair),
                (NotTogether, apart),
            ])
        with self.assertRaises(NoPair):
            removal(CHAIN, Standing([], [0, 0]), 1)


if __name__ == "__main__":
    unittest.main()
