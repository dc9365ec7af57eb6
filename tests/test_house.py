"""Houses: points 3 to 5, and point 17 for lanternhouse/house.py."""

import random
import unittest

from lanternhouse.errors import InvalidHouse, NotThere, UnknownPart
from lanternhouse.house import (
    House, doors_at, is_even, is_odd, is_strict, is_swift, is_tree, longest_cycle, other_end,
)

from support import random_house


class Creating(unittest.TestCase):

    def check_fails(self, door, rooms, doors, **trades):
        with self.assertRaises(InvalidHouse) as caught:
            House(rooms, doors, **trades)
        self.assertEqual(caught.exception.door, door)

    def test_attributes(self):
        house = House(3, [(0, 1, "RB"), (2, 1, "RRRB")])
        self.assertEqual(house.rooms, 3)
        self.assertEqual(house.doors, ((0, 1, "RB"), (2, 1, "RRRB")))
        self.assertEqual(house.trades, "RB")

    def test_attributes_are_tuples_of_tuples(self):
        house = House(2, [[0, 1, "AZA"]], trades="ZA")
        self.assertIsInstance(house.doors, tuple)
        self.assertIsInstance(house.doors[0], tuple)
        self.assertEqual(house.doors, ((0, 1, "AZA"),))
        self.assertEqual(house.trades, "ZA")

    def test_a_house_without_doors(self):
        house = House(1, [])
        self.assertEqual((house.rooms, house.doors, house.trades), (1, (), "RB"))

    def test_several_doors_may_join_the_same_rooms(self):
        house = House(2, [(0, 1, "RB"), (1, 0, "RB"), (0, 1, "BR")])
        self.assertEqual(len(house.doors), 3)

    def test_there_is_at_least_one_room(self):
        self.check_fails(None, 0, [])
        self.check_fails(None, -1, [])
        self.check_fails(None, -999999999, [])
        self.check_fails(None, 0, [(0, 1, "RB")])

    def test_faulty_trades(self):
        for trades in ("", "R", "RR", "RBR", "rb", "Rb", "R1", "R ", "R*", "R-B", "R@", "R[", " RB", "RB\n"):
            self.check_fails(None, 1, [], trades=trades)

    def test_trades_that_are_no_ascii_letters(self):
        for trades in ("R\u00c9", "\u0391B", "R\uff22"):
            self.check_fails(None, 1, [], trades=trades)

    def test_trades_at_the_ends_of_the_alphabet(self):
        self.assertEqual(House(1, [], trades="AZ").trades, "AZ")
        self.assertEqual(House(1, [], trades="ZYXWV").trades, "ZYXWV")

    def test_trades_are_checked_before_the_doors(self):
        self.check_fails(None, 2, [(0, 0, "RB")], trades="R")
        self.check_fails(None, 2, [(0, 5, "")], trades="")

    def test_ends_are_rooms(self):
        for ends in ((-1, 0), (0, -1), (2, 0), (0, 2), (0, 999999999), (-999999999, 1), (-2, -1)):
            self.check_fails(0, 2, [(*ends, "RB")])

    def test_ends_differ(self):
        self.check_fails(0, 2, [(0, 0, "RB")])
        self.check_fails(1, 2, [(0, 1, "RB"), (1, 1, "RB")])

    def test_the_only_room_joins_nothing(self):
        self.check_fails(0, 1, [(0, 0, "RB")])
        self.check_fails(0, 1, [(0, 1, "RB")])

    def test_cycles(self):
        for cycle in ("", "R", "B", "RRR", "RBG", "RB ", "rb", "RBr", "RB*", "RB1"):
            self.check_fails(0, 2, [(0, 1, cycle)])

    def test_a_cycle_has_every_trade_of_the_house(self):
        self.check_fails(0, 2, [(0, 1, "RBRB")], trades="RBG")
        self.check_fails(0, 2, [(0, 1, "RBGA")], trades="RBG")
        self.assertEqual(House(2, [(0, 1, "GBR")], trades="RBG").doors, ((0, 1, "GBR"),))

    def test_the_first_faulty_door_is_named(self):
        self.check_fails(1, 3, [(0, 1, "RB"), (1, 1, "RB"), (1, 2, "RRR")])
        self.check_fails(1, 3, [(0, 1, "RB"), (1, 2, ""), (1, 3, "RB")])
        self.check_fails(2, 3, [(0, 1, "RB"), (1, 2, "BR"), (0, 3, "RB")])

    def test_every_room_can_be_reached(self):
        self.check_fails(None, 2, [])
        self.check_fails(None, 3, [(0, 1, "RB")])
        self.check_fails(None, 4, [(0, 1, "RB"), (2, 3, "RB"), (0, 1, "BR")])
        self.check_fails(None, 4, [(1, 2, "RB"), (2, 3, "RB"), (3, 1, "RB")])

    def test_a_faulty_door_comes_before_a_room_that_cannot_be_reached(self):
        self.check_fails(1, 4, [(0, 1, "RB"), (2, 3, "R")])
        self.check_fails(0, 9999, [(0, 0, "RB")])

    def test_very_many_rooms_that_cannot_be_reached(self):
        self.check_fails(None, 999999999, [(0, 1, "RB")])

    def test_houses_beyond_the_upper_limits_are_houses(self):
        chain = [(room, room + 1, "RB") for room in range(29)]
        self.assertEqual(House(30, chain).rooms, 30)
        self.assertEqual(len(House(2, [(0, 1, "RB")] * 40).doors), 40)
        self.assertEqual(House(2, [(0, 1, "RB" * 20)]).doors[0][2], "RB" * 20)
        self.assertEqual(House(2, [(1, 0, "ABCDEFGH")], trades="HGFEDCBA").trades, "HGFEDCBA")


class Kinds(unittest.TestCase):

    def test_a_house_without_doors_is_of_every_kind(self):
        for trades in ("RB", "XYZ"):
            house = House(1, [], trades=trades)
            for kind in (is_odd, is_even, is_strict, is_tree, is_swift):
                self.assertIs(kind(house), True)
            self.assertEqual(longest_cycle(house), 0)

    def test_odd(self):
        self.assertIs(is_odd(House(2, [(0, 1, "RRRB")])), True)
        self.assertIs(is_odd(House(2, [(0, 1, "RB"), (0, 1, "BBBR")])), True)
        self.assertIs(is_odd(House(2, [(0, 1, "RRB")])), False)
        self.assertIs(is_odd(House(2, [(0, 1, "RBB")])), False)
        self.assertIs(is_odd(House(2, [(0, 1, "RRBB")])), False)
        self.assertIs(is_odd(House(2, [(0, 1, "RB"), (0, 1, "RRB")])), False)
        self.assertIs(is_odd(House(2, [(0, 1, "RBG")], trades="RBG")), True)
        self.assertIs(is_odd(House(2, [(0, 1, "RBGG")], trades="RBG")), False)

    def test_even(self):
        self.assertIs(is_even(House(2, [(0, 1, "RB"), (0, 1, "RRBB")])), True)
        self.assertIs(is_even(House(2, [(0, 1, "RB"), (0, 1, "RRB")])), False)
        self.assertIs(is_even(House(2, [(0, 1, "RBG")], trades="RBG")), False)
        self.assertIs(is_even(House(2, [(0, 1, "RBGG")], trades="RBG")), True)

    def test_strict(self):
        self.assertIs(is_strict(House(2, [(0, 1, "RB"), (0, 1, "BR")])), True)
        self.assertIs(is_strict(House(2, [(0, 1, "RB"), (0, 1, "RRB")])), False)
        self.assertIs(is_strict(House(2, [(0, 1, "RBRB")])), False)
        self.assertIs(is_strict(House(2, [(0, 1, "RBG")], trades="RBG")), False)

    def test_tree(self):
        self.assertIs(is_tree(House(3, [(0, 1, "RB"), (1, 2, "RB")])), True)
        self.assertIs(is_tree(House(2, [(0, 1, "RB")])), True)
        self.assertIs(is_tree(House(2, [(0, 1, "RB"), (0, 1, "RB")])), False)
        self.assertIs(is_tree(House(3, [(0, 1, "RB"), (1, 2, "RB"), (2, 0, "RB")])), False)

    def test_swift(self):
        self.assertIs(is_swift(House(2, [(0, 1, "RB"), (0, 1, "BRR"), (0, 1, "RBRB")])), True)
        self.assertIs(is_swift(House(2, [(0, 1, "RRRB")])), True)
        self.assertIs(is_swift(House(2, [(0, 1, "RBB")])), False)
        self.assertIs(is_swift(House(2, [(0, 1, "RBBR")])), False)
        self.assertIs(is_swift(House(2, [(0, 1, "RB"), (0, 1, "RRBB")])), False)

    def test_swift_round_the_end_of_the_cycle(self):
        self.assertIs(is_swift(House(2, [(0, 1, "BRB")])), False)
        self.assertIs(is_swift(House(2, [(0, 1, "BRRRB")])), False)
        self.assertIs(is_swift(House(2, [(0, 1, "BRBR")])), True)

    def test_swift_with_other_trades(self):
        self.assertIs(is_swift(House(2, [(0, 1, "XXYY")], trades="XY")), True)
        self.assertIs(is_swift(House(2, [(0, 1, "ABB")], trades="AB")), False)

    def test_longest_cycle(self):
        self.assertEqual(longest_cycle(House(2, [(0, 1, "RB")])), 2)
        self.assertEqual(longest_cycle(House(2, [(0, 1, "RB"), (0, 1, "RRRBB"), (0, 1, "RRB")])), 5)


class Doors(unittest.TestCase):

    def setUp(self):
        self.house = House(4, [(0, 1, "RB"), (2, 1, "RB"), (1, 0, "RB"), (3, 1, "RB")])

    def test_doors_at(self):
        self.assertEqual(doors_at(self.house, 0), [0, 2])
        self.assertEqual(doors_at(self.house, 1), [0, 1, 2, 3])
        self.assertEqual(doors_at(self.house, 2), [1])
        self.assertEqual(doors_at(House(1, []), 0), [])
        self.assertIsInstance(doors_at(self.house, 0), list)

    def test_doors_at_against_the_ends(self):
        house = random_house(random.Random(1), 9, 8)
        for room in range(9):
            wanted = [door for door in range(16) if room in house.doors[door][:2]]
            self.assertEqual(doors_at(house, room), wanted)

    def test_doors_at_unknown_rooms(self):
        for room in (-1, 4, -4, 999999999):
            with self.assertRaises(UnknownPart):
                doors_at(self.house, room)

    def test_other_end(self):
        self.assertEqual(other_end(self.house, 1, 2), 1)
        self.assertEqual(other_end(self.house, 1, 1), 2)
        self.assertEqual(other_end(self.house, 2, 1), 0)
        self.assertEqual(other_end(self.house, 2, 0), 1)

    def test_other_end_of_unknown_parts(self):
        for door, room in ((-1, 0), (4, 0), (0, -1), (0, 4), (-1, -1), (4, 4), (999999999, 0)):
            with self.assertRaises(UnknownPart):
                other_end(self.house, door, room)

    def test_other_end_of_a_room_that_is_no_end(self):
        for door, room in ((0, 2), (0, 3), (3, 0)):
            with self.assertRaises(NotThere):
                other_end(self.house, door, room)


if __name__ == "__main__":
    unittest.main()
