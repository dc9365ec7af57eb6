"""Reach: points 18 to 20 and 22, and point 17 for lanternhouse/reach.py."""

import unittest

from lanternhouse.errors import InvalidStanding, UnknownPart, WrongTrades
from lanternhouse.house import House
from lanternhouse.reach import is_live, is_rooted, meeting_rooms, root_rooms, safe_deeds, spread_of
from lanternhouse.standing import Standing

from support import (
    samples, slow_common_rooms, slow_deeds, slow_do, slow_last_lights, slow_lights, slow_live, slow_rooted,
    slow_spread,
)

# Room 3 hangs on the ring of the rooms 0, 1 and 2; two doors join the rooms 0 and 1.
RING = House(4, [(0, 1, "RB"), (1, 0, "RB"), (1, 2, "RB"), (2, 0, "RB"), (2, 3, "RRB")])
ONE_ROOM = House(1, [])
WITHOUT_TRADE = (is_live, is_rooted, meeting_rooms, root_rooms, safe_deeds)


class Spreads(unittest.TestCase):

    def test_a_chain(self):
        house = House(4, [(0, 1, "RB"), (1, 2, "RB"), (2, 3, "RB")])
        standing = Standing([("R", 0), ("B", 3)], [0, 0, 1])
        self.assertEqual(spread_of(house, standing, "R"), [0, 1, 2])
        self.assertEqual(spread_of(house, standing, "B"), [2, 3])
        self.assertIsInstance(spread_of(house, standing, "R"), list)

    def test_several_doors_between_two_rooms(self):
        standing = Standing([("R", 0), ("B", 0)], [0, 1, 1, 1, 0])
        self.assertEqual(spread_of(RING, standing, "R"), [0, 1])
        self.assertEqual(spread_of(RING, standing, "B"), [0, 1, 2])

    def test_a_ring(self):
        standing = Standing([("R", 1)], [1, 1, 0, 0, 0])
        self.assertEqual(spread_of(RING, standing, "R"), [0, 1, 2, 3])
        self.assertEqual(spread_of(RING, Standing([("B", 3)], [0, 0, 0, 0, 2]), "B"), [2, 3])

    def test_doors_are_walked_through_from_both_ends(self):
        house = House(3, [(1, 0, "RB"), (1, 2, "BR")])
        self.assertEqual(spread_of(house, Standing([("R", 0)], [0, 1]), "R"), [0, 1, 2])
        self.assertEqual(spread_of(house, Standing([("R", 2)], [0, 1]), "R"), [0, 1, 2])

    def test_several_hands_of_a_trade(self):
        standing = Standing([("R", 3), ("R", 0), ("R", 3), ("B", 2)], [1, 1, 1, 1, 2])
        self.assertEqual(spread_of(RING, standing, "R"), [0, 3])

    def test_a_trade_without_hands(self):
        standing = Standing([("R", 3)], [1, 1, 1, 1, 1])
        self.assertEqual(spread_of(RING, standing, "B"), [])
        self.assertEqual(spread_of(RING, Standing([], [0] * 5), "R"), [])

    def test_a_house_of_one_room(self):
        self.assertEqual(spread_of(ONE_ROOM, Standing([("R", 0)], []), "R"), [0])
        self.assertEqual(spread_of(ONE_ROOM, Standing([("R", 0)], []), "B"), [])

    def test_against_point_18(self):
        for house, standing in samples(40, 200, most_rooms=6, more_doors=4):
            for trade in "RB":
                wanted = sorted(slow_spread(house, standing, slow_lights(house, standing), trade))
                self.assertEqual(spread_of(house, standing, trade), wanted)


class LiveAndRooted(unittest.TestCase):

    def test_lights_and_last_lights(self):
        house = House(3, [(0, 1, "RRB"), (1, 2, "RBB")])
        hands = [("R", 0), ("B", 2)]
        # The lights are R and B, the last lights B and R.
        standing = Standing(hands, [0, 1])
        self.assertIs(is_live(house, standing), True)
        self.assertIs(is_rooted(house, standing), False)
        # The lights are B and R, the last lights R and B.
        standing = Standing(hands, [2, 0])
        self.assertIs(is_live(house, standing), False)
        self.assertIs(is_rooted(house, standing), True)
        # The lights and the last lights are R and B.
        standing = Standing(hands, [1, 2])
        self.assertIs(is_live(house, standing), True)
        self.assertIs(is_rooted(house, standing), True)
        self.assertEqual((meeting_rooms(house, standing), root_rooms(house, standing)), ([1], [1]))

    def test_meeting_rooms_and_root_rooms_differ(self):
        house = House(3, [(0, 1, "RRB"), (1, 2, "RBB")])
        standing = Standing([("R", 0), ("B", 2), ("B", 0)], [0, 1])
        self.assertEqual(meeting_rooms(house, standing), [0, 1])
        self.assertEqual(root_rooms(house, standing), [0])
        standing = Standing([("R", 0), ("B", 2)], [1, 1])
        self.assertEqual(meeting_rooms(house, standing), [1])
        self.assertEqual(root_rooms(house, standing), [2])
        standing = Standing([("R", 0), ("B", 2)], [0, 1])
        self.assertEqual(meeting_rooms(house, standing), [1])
        self.assertEqual(root_rooms(house, standing), [])

    def test_one_trade_without_hands(self):
        for hands in ([], [("R", 0)], [("B", 2), ("B", 0)]):
            standing = Standing(hands, [0] * 5)
            self.assertIs(is_live(RING, standing), False)
            self.assertIs(is_rooted(RING, standing), False)
            self.assertEqual(meeting_rooms(RING, standing), [])
            self.assertEqual(root_rooms(RING, standing), [])
            self.assertEqual(safe_deeds(RING, standing), [])

    def test_a_house_of_one_room(self):
        both = Standing([("R", 0), ("B", 0)], [])
        self.assertIs(is_live(ONE_ROOM, both), True)
        self.assertIs(is_rooted(ONE_ROOM, both), True)
        self.assertEqual((meeting_rooms(ONE_ROOM, both), root_rooms(ONE_ROOM, both)), ([0], [0]))
        self.assertEqual(safe_deeds(ONE_ROOM, both), [])
        self.assertIs(is_live(ONE_ROOM, Standing([("B", 0)], [])), False)
        self.assertIs(is_rooted(ONE_ROOM, Standing([], [])), False)

    def test_against_points_19_and_20(self):
        for house, standing in samples(41, 250, most_rooms=6, more_doors=3):
            wanted = sorted(slow_common_rooms(house, standing, slow_lights(house, standing)))
            self.assertEqual(meeting_rooms(house, standing), wanted)
            self.assertIs(is_live(house, standing), wanted != [])
            wanted = sorted(slow_common_rooms(house, standing, slow_last_lights(house, standing)))
            self.assertEqual(root_rooms(house, standing), wanted)
            self.assertIs(is_rooted(house, standing), wanted != [])


class SafeDeeds(unittest.TestCase):

    def test_a_deed_that_is_not_safe(self):
        house = House(2, [(0, 1, "RB")])
        # Either hand may stand at the other end, but only the red can pass.
        standing = Standing([("R", 0), ("B", 1)], [0])
        self.assertEqual(safe_deeds(house, standing), [(0, 0)])
        house = House(3, [(0, 1, "RB"), (1, 2, "RB")])
        standing = Standing([("R", 1), ("B", 2)], [0, 0])
        # The red that goes to room 0 finds no way back, and the blue can't leave.
        self.assertEqual(slow_deeds(house, standing), [(0, 0), (0, 1)])
        self.assertEqual(safe_deeds(house, standing), [(0, 1)])

    def test_in_ascending_order(self):
        house = House(2, [(0, 1, "RB"), (0, 1, "RRB")])
        standing = Standing([("B", 0), ("R", 0), ("R", 1)], [0, 0])
        self.assertEqual(safe_deeds(house, standing), [(1, 0), (1, 1), (2, 0), (2, 1)])
        self.assertTrue(all(isinstance(deed, tuple) for deed in safe_deeds(house, standing)))
        self.assertIsInstance(safe_deeds(house, standing), list)

    def test_against_point_22(self):
        differ = 0
        for house, standing in samples(42, 1500, most_rooms=6, most_hands=3, more_doors=1):
            deeds = slow_deeds(house, standing)
            wanted = [deed for deed in deeds if slow_live(house, slow_do(house, standing, *deed))]
            self.assertEqual(safe_deeds(house, standing), wanted)
            differ += 0 < len(wanted) < len(deeds)
            if not slow_live(house, standing):
                self.assertEqual(wanted, [])
            elif house.doors:
                self.assertNotEqual(wanted, [])
        self.assertGreater(differ, 10)


class Requirements(unittest.TestCase):

    def setUp(self):
        self.turned = House(2, [(0, 1, "BR")], trades="BR")
        self.guilds = House(2, [(0, 1, "RBG")], trades="RBG")

    def test_fits(self):
        for ask in WITHOUT_TRADE:
            for standing in (Standing([], []), Standing([("R", 4)], [0] * 5), Standing([("G", 0)], [0] * 5)):
                with self.assertRaises(InvalidStanding):
                    ask(RING, standing)

    def test_unknown_trades(self):
        for trade in ("", "RB", "BR", "G", "r", "*", "RR", " "):
            with self.assertRaises(UnknownPart):
                spread_of(RING, Standing([("R", 0)], [0] * 5), trade)

    def test_known_trades_of_other_houses(self):
        with self.assertRaises(WrongTrades):
            spread_of(self.guilds, Standing([], [0]), "G")
        with self.assertRaises(UnknownPart):
            spread_of(House(2, [(0, 1, "XY")], trades="XY"), Standing([], [0]), "R")

    def test_other_trades(self):
        for house in (self.turned, self.guilds, House(1, [], trades="BR")):
            standing = Standing([("R", 0), ("B", 0)], [0] * len(house.doors))
            for ask in WITHOUT_TRADE:
                with self.assertRaises(WrongTrades):
                    ask(house, standing)
            with self.assertRaises(WrongTrades):
                spread_of(house, standing, "R")

    def test_a_master_among_the_hands(self):
        standing = Standing([("R", 0), ("B", 0), ("*", 3)], [0] * 5)
        for ask in WITHOUT_TRADE:
            with self.assertRaises(WrongTrades):
                ask(RING, standing)
        for trade in "RB":
            with self.assertRaises(WrongTrades):
                spread_of(RING, standing, trade)

    def test_fits_comes_before_known_and_two_trades(self):
        unfit = Standing([("*", 0)], [3])
        for trade in ("R", "G", "", "RB"):
            with self.assertRaises(InvalidStanding):
                spread_of(self.turned, unfit, trade)
        for ask in WITHOUT_TRADE:
            with self.assertRaises(InvalidStanding):
                ask(self.turned, unfit)

    def test_known_comes_before_two_trades(self):
        for trade in ("", "BR", "G", "*"):
            with self.assertRaises(UnknownPart):
                spread_of(self.turned, Standing([], [0]), trade)
            with self.assertRaises(UnknownPart):
                spread_of(RING, Standing([("*", 0)], [0] * 5), trade)

    def test_rooted_is_asked_of_a_standing_that_is_live_and_one_that_is_not(self):
        for house, standing in samples(43, 60):
            self.assertEqual(is_rooted(house, standing), slow_rooted(house, standing))


if __name__ == "__main__":
    unittest.main()
