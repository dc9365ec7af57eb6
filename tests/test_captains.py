"""The two captains: point 55, and point 17 for lanternhouse/captains.py."""

import unittest

from lanternhouse.captains import captain_deed, winner
from lanternhouse.deeds import can_do, do
from lanternhouse.errors import InvalidStanding, NotDead, NotTree, UnknownPart, WrongTrades
from lanternhouse.farewell import farewell_count
from lanternhouse.house import House
from lanternhouse.standing import Standing

from broken import check_requirements, no_tree, other_trades, parts_of, replaced, unfit, with_masters
from support import parted_trades, plain, slow_deeds, slow_do, slow_farewell, slow_live, tree_samples

# The reds move between the rooms 0 and 1, the blues between the rooms 2 and 3.
HOUSE = House(4, [(0, 1, "RRRRB"), (1, 2, "RB"), (2, 3, "BBBBR")])


def other(trade):
    return "B" if trade == "R" else "R"


def slow_winner(house, standing, first, known=None):
    """Play all games: the captain to move wins with a deed after which the other one loses."""
    known = {} if known is None else known
    if (plain(standing), first) not in known:
        known[plain(standing), first] = other(first)
        for hand, door in slow_deeds(house, standing):
            if standing.hands[hand][0] == first:
                if slow_winner(house, slow_do(house, standing, hand, door), other(first), known) == first:
                    known[plain(standing), first] = first
    return known[plain(standing), first]


def dead_samples(seed, count):
    found = tree_samples(seed, count, most_rooms=5, most_hands=4, longest=6)
    return [(house, standing) for house, standing in found if not slow_live(house, standing)]


def far_apart(red_place, blue_place):
    """Make a house whose middle room is closed, with a red on one side and a blue on the other."""
    house = House(5, [(0, 1, "RRRRB"), (1, 2, "BR"), (2, 3, "RB"), (3, 4, "BBBBR")])
    return house, Standing([("R", 0), ("B", 4)], [red_place, 0, 0, blue_place])


class Winners(unittest.TestCase):

    def test_the_longer_farewell_wins(self):
        house, standing = far_apart(0, 1)
        self.assertEqual([farewell_count(house, standing, trade) for trade in "RB"], [4, 3])
        for first in "RB":
            self.assertEqual(winner(house, standing, first=first), "R")
        house, standing = far_apart(2, 1)
        for first in "RB":
            self.assertEqual(winner(house, standing, first=first), "B")

    def test_the_first_loses_if_they_are_equal(self):
        house, standing = far_apart(2, 2)
        self.assertEqual(winner(house, standing, first="R"), "B")
        self.assertEqual(winner(house, standing, first="B"), "R")

    def test_nobody_can_move(self):
        for standing in (Standing([], [0, 0, 0]), Standing([("R", 0)], [4, 0, 0])):
            self.assertEqual(winner(HOUSE, standing, first="R"), "B")
            self.assertEqual(winner(HOUSE, standing, first="B"), "R")
        self.assertEqual(winner(House(1, []), Standing([("R", 0)], []), first="R"), "B")

    def test_against_all_games(self):
        found = set()
        for house, standing in dead_samples(210, 600) + parted_trades(213, 120):
            for first in "RB":
                wanted = slow_winner(house, standing, first)
                found.add((first, wanted))
                self.assertEqual(winner(house, standing, first=first), wanted)
        self.assertEqual(len(found), 4)


class Deeds(unittest.TestCase):

    def check_deed(self, house, standing, trade):
        deed = captain_deed(house, standing, trade)
        own = [(hand, door) for hand, door in slow_deeds(house, standing) if standing.hands[hand][0] == trade]
        if not own:
            self.assertIsNone(deed)
            return
        self.assertIsInstance(deed, tuple)
        self.assertIn(deed, own)
        self.assertTrue(can_do(house, standing, *deed))
        after = do(house, standing, *deed)
        self.assertEqual(slow_farewell(house, after, trade), slow_farewell(house, standing, trade) - 1)

    def test_a_deed_that_gives_away_too_much(self):
        # The red may step to room 2 and find no way back, or go to room 0 and to room 2 afterwards.
        house = House(4, [(1, 0, "RRB"), (1, 2, "RB"), (2, 3, "BR")])
        standing = Standing([("R", 1)], [0, 0, 0])
        self.assertEqual(captain_deed(house, standing, "R"), (0, 0))

    def test_a_captain_who_cannot_move(self):
        self.assertIsNone(captain_deed(HOUSE, Standing([("R", 0)], [0, 0, 0]), "B"))
        self.assertIsNone(captain_deed(HOUSE, Standing([("R", 0)], [4, 0, 0]), "R"))
        self.assertIsNone(captain_deed(House(1, []), Standing([("B", 0)], []), "B"))

    def test_the_own_farewell_is_less_by_one(self):
        for house, standing in dead_samples(211, 600) + parted_trades(214, 120):
            for trade in "RB":
                self.check_deed(house, standing, trade)

    def test_the_winner_wins_by_these_deeds(self):
        games = 0
        for house, standing in dead_samples(212, 200) + parted_trades(215, 120):
            for first in "RB":
                trade, now, won = first, standing, winner(house, standing, first=first)
                while captain_deed(house, now, trade) is not None:
                    games += 1
                    now = do(house, now, *captain_deed(house, now, trade))
                    trade = other(trade)
                self.assertEqual(other(trade), won)
        self.assertGreater(games, 50)


class Requirements(unittest.TestCase):

    def test_order(self):
        def live(parts):
            parts["standing"][0] = [("R", 1), ("B", 1)]

        standing = Standing([("R", 0), ("R", 0)], [0, 0, 0])
        for trade in ("", "RB", "r", "G", "*"):
            for break_trades in (other_trades, with_masters):
                for function, names in ((winner, ["standing", "*first"]), (captain_deed, ["standing", "trade"])):
                    parts = parts_of(HOUSE, standing=standing, first="R", trade="R")
                    name = names[1].strip("*")
                    check_requirements(self, function, names, parts, [
                        (InvalidStanding, unfit("standing")),
                        (UnknownPart, replaced(name, trade)),
                        (WrongTrades, break_trades),
                        (NotTree, no_tree),
                    ])
                    check_requirements(self, function, names, parts, [
                        (InvalidStanding, unfit("standing")),
                        (UnknownPart, replaced(name, trade)),
                        (WrongTrades, other_trades),
                        (NotTree, no_tree),
                        (NotDead, live),
                    ])

    def test_trades_of_other_houses(self):
        house = House(2, [(0, 1, "XYZ")], trades="XYZ")
        with self.assertRaises(WrongTrades):
            winner(house, Standing([], [0]), first="Y")
        with self.assertRaises(UnknownPart):
            winner(house, Standing([], [0]), first="B")
        with self.assertRaises(WrongTrades):
            captain_deed(house, Standing([], [0]), "Z")


if __name__ == "__main__":
    unittest.main()
