"""Undoing a deed: point 63, and point 17 for lanternhouse/undoing.py."""

import unittest

from lanternhouse.deeds import Run
from lanternhouse.errors import InvalidStanding, NotOdd, NotPossible, NotTree, UnknownPart, WrongTrades
from lanternhouse.house import House
from lanternhouse.standing import Standing
from lanternhouse.undoing import undo_run

from broken import check_requirements, no_tree, not_odd, other_trades, parts_of, replaced, unfit, with_masters
from support import odd_samples, plain, slow_deeds, slow_do, slow_live, slow_reached, slow_replay, slow_rooted

CHAIN = House(3, [(0, 1, "RB"), (1, 2, "RRRB")])


def has_helper(house, standing, hand, door):
    ends = house.doors[door][:2]
    return any(room in ends and trade != standing.hands[hand][0] for trade, room in standing.hands)


class Undoing(unittest.TestCase):

    def check_undo(self, house, standing, hand, door):
        """Check the run or None, and return how many deeds the run has."""
        after = slow_do(house, standing, hand, door)
        run = undo_run(house, standing, hand, door)
        can = slow_live(house, after) and slow_rooted(house, standing)
        self.assertEqual(run is not None, can)
        if run is None:
            return None
        self.assertIsInstance(run, Run)
        self.assertEqual(plain(slow_replay(house, after, run)), plain(standing))
        least = 2 * len(house.doors[door][2]) - 1
        if has_helper(house, standing, hand, door):
            self.assertEqual(len(run), least)
        else:
            self.assertGreater(len(run), least)
        return len(run)

    def test_every_possible_deed(self):
        found = {"none": 0, "least": 0, "longer": 0}
        for house, standing in odd_samples(320, 300, most_rooms=6, hands=(1, 5), more_doors=0, longest=8):
            for hand, door in slow_deeds(house, standing):
                many = self.check_undo(house, standing, hand, door)
                helper = has_helper(house, standing, hand, door)
                found["none" if many is None else "least" if helper else "longer"] += 1
        self.assertGreater(min(found.values()), 20, found)

    def test_against_a_search(self):
        tried = {True: 0, False: 0}
        for house, standing in odd_samples(321, 120, most_rooms=3, hands=(1, 3), more_doors=0, longest=4):
            for hand, door in slow_deeds(house, standing)[:2]:
                after = slow_do(house, standing, hand, door)
                least = slow_reached(house, after).get(plain(standing))
                run = undo_run(house, standing, hand, door)
                helper = has_helper(house, standing, hand, door)
                tried[helper] += 1
                self.assertEqual(run is None, least is None)
                if helper:
                    self.assertEqual(len(run), least)
                elif run is not None:
                    self.assertGreaterEqual(len(run), least)
        self.assertGreater(min(tried.values()), 20)

    def test_a_hand_of_the_other_trade_at_either_end(self):
        for room in (1, 2):
            standing = Standing([("R", 1), ("R", 0), ("B", room)], [0, 1])
            self.assertEqual(self.check_undo(CHAIN, standing, 0, 1), 7)
        standing = Standing([("B", 2), ("R", 0), ("R", 2)], [0, 3])
        self.assertEqual(self.check_undo(CHAIN, standing, 0, 1), 7)
        # A hand of the same trade is no help.
        self.assertIsNone(self.check_undo(CHAIN, Standing([("R", 1), ("R", 2)], [0, 1]), 0, 1))

    def test_elsewhere(self):
        house = House(4, [(0, 1, "RRRB"), (1, 2, "BR"), (2, 3, "RB")])
        # The red can walk on to the blue after the deed, and before it by the last lights.
        standing = Standing([("R", 0), ("B", 3)], [1, 0, 1])
        self.assertGreater(self.check_undo(house, standing, 0, 0), 7)
        # No blue can be met after the deed.
        self.assertIsNone(undo_run(house, Standing([("R", 0), ("B", 3)], [1, 0, 0]), 0, 0))
        # The standing before the deed is not rooted.
        self.assertIsNone(undo_run(house, Standing([("R", 0), ("B", 3)], [0, 0, 1]), 0, 0))

    def test_large_trees(self):
        for house, standing in odd_samples(322, 3, most_rooms=16, hands=(35, 40), more_doors=0, longest=12):
            for hand, door in slow_deeds(house, standing)[:6]:
                self.check_undo(house, standing, hand, door)

    def test_requirements(self):
        parts = parts_of(CHAIN, standing=Standing([("R", 0), ("B", 1), ("R", 2)], [0, 3]), hand=0, door=0)
        for name, unknown in (("hand", -1), ("hand", 9), ("door", -1), ("door", 9), ("hand", 999999999)):
            for break_trades in (other_trades, with_masters):
                check_requirements(self, undo_run, ["standing", "hand", "door"], parts, [
                    (InvalidStanding, unfit("standing")),
                    (UnknownPart, replaced(name, unknown)),
                    (WrongTrades, break_trades),
                    (NotOdd, not_odd),
                    (NotTree, no_tree),
                ])
        check_requirements(self, undo_run, ["standing", "hand", "door"], parts, [
            (InvalidStanding, unfit("standing")),
            (WrongTrades, other_trades),
            (NotOdd, not_odd),
            (NotTree, no_tree),
            (NotPossible, replaced("hand", 2)),
        ])

    def test_not_possible(self):
        standing = Standing([("R", 0), ("B", 1), ("R", 2)], [0, 3])
        # Another light, another room, and both.
        for hand, door in ((1, 0), (2, 0), (2, 1), (0, 1)):
            with self.assertRaises(NotPossible) as caught:
                undo_run(CHAIN, standing, hand, door)
            self.assertEqual((caught.exception.hand, caught.exception.door), (hand, door))


if __name__ == "__main__":
    unittest.main()
