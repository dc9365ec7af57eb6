"""Farewells: point 54, point 13 for farewells, and point 17 for lanternhouse/farewell.py."""

import random
import unittest

from lanternhouse.deeds import Run, do, possible_deeds
from lanternhouse.errors import InvalidStanding, NotDead, NotTree, UnknownPart, WrongTrades
from lanternhouse.farewell import farewell, farewell_count
from lanternhouse.house import House
from lanternhouse.mirror import recoloured_house, recoloured_standing
from lanternhouse.standing import Standing

from broken import check_requirements, no_tree, other_trades, parts_of, replaced, unfit, with_masters
from support import parted_trades, plain, slow_deeds, slow_farewell, slow_live, slow_replay, tree_samples

CHAIN = House(4, [(0, 1, "RRRB"), (1, 2, "RBBB"), (2, 3, "RB")])


def dead_trees(seed, count, **limits):
    return [pair for pair in tree_samples(seed, count, **limits) if not slow_live(*pair)]


def one_trade(seed, count, trade, most_rooms=7, most_hands=3):
    """Make trees with hands of one trade and with many of its letters side by side."""
    rng = random.Random(seed)
    other = "B" if trade == "R" else "R"
    made = []
    for _ in range(count):
        rooms = rng.randint(2, most_rooms)
        doors = [
            (room - 1 if rng.random() < 0.6 else rng.randrange(room), room, trade * rng.choice([1, 1, 2, 2, 3, 4]) + other)
            for room in range(1, rooms)
        ]
        rng.shuffle(doors)
        places = [rng.randrange(len(cycle)) if rng.random() < 0.2 else 0 for _, _, cycle in doors]
        hands = [(trade, rng.randrange(rooms)) for _ in range(rng.randint(1, most_hands))]
        made.append((House(rooms, doors), Standing(hands, places)))
    return made


class Farewells(unittest.TestCase):

    def check_farewell(self, house, standing, trade, wanted):
        count = farewell_count(house, standing, trade)
        self.assertEqual(count, wanted, (house.doors, standing.hands, standing.places, trade))
        run = farewell(house, standing, trade)
        self.assertIsInstance(run, Run)
        self.assertEqual(len(run), wanted)
        self.assertEqual([hand for hand, _ in run if standing.hands[hand][0] != trade], [])
        slow_replay(house, standing, run)

    def test_there_and_back(self):
        # Three letters R: the red crosses, comes back and crosses again.
        self.check_farewell(CHAIN, Standing([("R", 0)], [0, 1, 0]), "R", 3)
        self.check_farewell(CHAIN, Standing([("R", 1)], [1, 1, 0]), "R", 2)
        self.check_farewell(CHAIN, Standing([("R", 1)], [3, 1, 0]), "R", 0)

    def test_the_rest_goes_round_the_end_of_the_cycle(self):
        house = House(2, [(0, 1, "RRBR")])
        self.check_farewell(house, Standing([("R", 0)], [3]), "R", 3)
        self.check_farewell(house, Standing([("B", 1)], [2]), "B", 1)

    def test_both_trades(self):
        # Room 2 is closed, as the lights of its doors are B and R.
        house = House(5, [(0, 1, "RRRB"), (1, 2, "BR"), (2, 3, "RB"), (3, 4, "BBRB")])
        standing = Standing([("R", 0), ("B", 4)], [0, 0, 0, 3])
        self.check_farewell(house, standing, "R", 3)
        self.check_farewell(house, standing, "B", 3)
        self.check_farewell(house, Standing(standing.hands, [2, 0, 0, 1]), "R", 1)
        self.check_farewell(house, Standing(standing.hands, [2, 0, 0, 2]), "B", 0)

    def test_a_way_that_is_worth_a_loss(self):
        # Staying in the middle leaves the last door alone, though two of the others have even rests.
        house = House(5, [(0, 1, "RRB"), (1, 2, "RRB"), (2, 3, "RB"), (3, 4, "RRRRB")])
        self.check_farewell(house, Standing([("R", 0)], [0, 0, 0, 0]), "R", 7)
        # Here it is not worth it.
        house = House(5, [(0, 1, "RRB"), (1, 2, "RRB"), (2, 3, "RB"), (3, 4, "RB")])
        self.check_farewell(house, Standing([("R", 0)], [0, 0, 0, 0]), "R", 4)

    def test_a_trade_without_hands(self):
        for hands in ([], [("R", 0)]):
            standing = Standing(hands, [0, 1, 1])
            self.check_farewell(CHAIN, standing, "B", 0)
        self.check_farewell(House(1, []), Standing([("R", 0)], []), "B", 0)
        self.check_farewell(House(1, []), Standing([("R", 0)], []), "R", 0)

    def test_lights_that_let_nobody_pass(self):
        self.check_farewell(CHAIN, Standing([("R", room) for room in range(4)], [3, 1, 1]), "R", 0)
        self.check_farewell(CHAIN, Standing([("B", room) for room in range(4)], [0, 0, 0]), "B", 0)

    def test_several_hands(self):
        house = House(3, [(0, 1, "RB"), (0, 2, "RB")])
        self.check_farewell(house, Standing([("R", 0)], [0, 0]), "R", 1)
        self.check_farewell(house, Standing([("R", 0), ("R", 0)], [0, 0]), "R", 2)
        self.check_farewell(house, Standing([("R", 1)], [0, 0]), "R", 2)

    def test_against_a_search_over_runs(self):
        longest = 0
        for house, standing in dead_trees(200, 1500, most_rooms=6, longest=6):
            for trade in "RB":
                wanted = slow_farewell(house, standing, trade)
                longest = max(longest, wanted)
                self.check_farewell(house, standing, trade, wanted)
        self.assertGreater(longest, 5)

    def test_one_trade_against_a_search_over_runs(self):
        for seed, trade in ((201, "R"), (202, "B")):
            found = set()
            for house, standing in one_trade(seed, 400, trade):
                wanted = slow_farewell(house, standing, trade)
                found.add(wanted)
                self.check_farewell(house, standing, trade, wanted)
            self.assertGreater(len(found), 12)

    def test_one_hand_and_long_ways(self):
        for house, standing in one_trade(203, 500, "R", most_rooms=9, most_hands=1):
            self.check_farewell(house, standing, "R", slow_farewell(house, standing, "R"))

    def test_large_trees(self):
        for house, standing in one_trade(204, 12, "R", most_rooms=16, most_hands=40):
            count = farewell_count(house, standing, "R")
            self.check_farewell(house, standing, "R", count)

    def test_both_trades_against_a_search_over_runs(self):
        for house, standing in parted_trades(208, 150):
            for trade in "RB":
                self.check_farewell(house, standing, trade, slow_farewell(house, standing, trade))

    def test_deeds_of_the_other_trade_change_nothing(self):
        deeds = 0
        for house, standing in dead_trees(205, 300, most_rooms=5, most_hands=5, longest=6) + parted_trades(206, 150):
            for hand, door in possible_deeds(house, standing):
                deeds += 1
                other = "B" if standing.hands[hand][0] == "R" else "R"
                after = do(house, standing, hand, door)
                self.assertEqual(farewell_count(house, after, other), farewell_count(house, standing, other))
        self.assertGreater(deeds, 200)

    def test_two_farewells_can_be_mixed(self):
        both = 0
        for house, standing in parted_trades(209, 200, most_rooms=4, most_hands=3):
            reds, blues = [list(farewell(house, standing, trade)) for trade in "RB"]
            both += len(reds) > 1 and len(blues) > 1
            by_turns = [deed for pair in zip(reds, blues) for deed in pair]
            rest = reds[len(by_turns) // 2:] + blues[len(by_turns) // 2:]
            ends = [slow_replay(house, standing, deeds) for deeds in (reds + blues, blues + reds, by_turns + rest)]
            self.assertEqual(plain(ends[1]), plain(ends[0]))
            self.assertEqual(plain(ends[2]), plain(ends[0]))
            # Nobody can move any more.
            self.assertEqual(slow_deeds(house, ends[0]), [])
        self.assertGreater(both, 50)

    def test_recoloured(self):
        for house, standing in dead_trees(207, 200, most_rooms=5, longest=6) + parted_trades(213, 60):
            other_house, other = recoloured_house(house), recoloured_standing(house, standing)
            for trade, own in (("R", "B"), ("B", "R")):
                self.assertEqual(farewell_count(other_house, other, own), farewell_count(house, standing, trade))
                self.assertEqual(len(farewell(other_house, other, own)), farewell_count(house, standing, trade))


class Requirements(unittest.TestCase):

    def test_order(self):
        def live(parts):
            parts["standing"][0] = [("R", 1), ("B", 1)]

        parts = parts_of(CHAIN, standing=Standing([("R", 0), ("R", 0)], [0, 0, 0]), trade="R")
        for function in (farewell, farewell_count):
            for trade in ("", "RB", "r", "G", "*", "BR"):
                for break_trades in (other_trades, with_masters):
                    check_requirements(self, function, ["standing", "trade"], parts, [
                        (InvalidStanding, unfit("standing")),
                        (UnknownPart, replaced("trade", trade)),
                        (WrongTrades, break_trades),
                        (NotTree, no_tree),
                    ])
            check_requirements(self, function, ["standing", "trade"], parts, [
                (InvalidStanding, unfit("standing")),
                (UnknownPart, replaced("trade", "X")),
                (WrongTrades, other_trades),
                (NotTree, no_tree),
                (NotDead, live),
            ])

    def test_trades_of_other_houses(self):
        house = House(2, [(0, 1, "XYZ")], trades="XYZ")
        for function in (farewell, farewell_count):
            with self.assertRaises(WrongTrades):
                function(house, Standing([], [0]), "X")
            with self.assertRaises(UnknownPart):
                function(house, Standing([], [0]), "R")


if __name__ == "__main__":
    unittest.main()
