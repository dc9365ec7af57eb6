"""Turning back and recolouring: points 12 and 13, and point 17 for lanternhouse/mirror.py."""

import random
import unittest

from lanternhouse.deeds import Run, replay
from lanternhouse.errors import BadDeed, InvalidStanding, WrongTrades
from lanternhouse.house import House
from lanternhouse.mirror import recoloured_house, recoloured_standing, turned_house, turned_standing
from lanternhouse.standing import Standing, fits, last_light_of, light_of

from support import plain, samples, slow_deeds, slow_do

HOUSE = House(3, [(0, 1, "RB"), (2, 1, "RRRBB"), (1, 2, "RRB")])
GUILDS = House(2, [(0, 1, "XYZZ")], trades="ZYX")


class TurningBack(unittest.TestCase):

    def test_house(self):
        turned = turned_house(HOUSE)
        self.assertIsInstance(turned, House)
        self.assertEqual(turned.rooms, 3)
        self.assertEqual(turned.doors, ((0, 1, "BR"), (2, 1, "BBRRR"), (1, 2, "BRR")))
        self.assertEqual(turned.trades, "RB")

    def test_house_with_other_trades(self):
        self.assertEqual(plain(turned_house(GUILDS)), ("house", 2, ((0, 1, "ZZYX"),), "ZYX"))

    def test_house_without_doors(self):
        self.assertEqual(plain(turned_house(House(1, [], trades="AB"))), ("house", 1, (), "AB"))

    def test_place_0_and_the_other_places(self):
        hands = [("R", 0), ("*", 2), ("B", 1)]
        self.assertEqual(turned_standing(HOUSE, Standing(hands, [0, 0, 0])).places, (0, 0, 0))
        self.assertEqual(turned_standing(HOUSE, Standing(hands, [1, 1, 1])).places, (1, 4, 2))
        self.assertEqual(turned_standing(HOUSE, Standing(hands, [1, 4, 2])).places, (1, 1, 1))
        self.assertEqual(turned_standing(HOUSE, Standing(hands, [0, 3, 0])).places, (0, 2, 0))

    def test_the_hands_stay(self):
        hands = (("R", 0), ("*", 2), ("B", 1))
        turned = turned_standing(HOUSE, Standing(hands, [0, 3, 1]))
        self.assertIsInstance(turned, Standing)
        self.assertEqual(turned.hands, hands)

    def test_standing_with_other_trades(self):
        standing = Standing([("X", 1), ("*", 0)], [3])
        self.assertEqual(plain(turned_standing(GUILDS, standing)), ("standing", (("X", 1), ("*", 0)), (1,)))

    def test_standing_without_hands_and_places(self):
        self.assertEqual(plain(turned_standing(House(1, []), Standing([], []))), ("standing", (), ()))

    def test_turned_back_twice_is_the_same_again(self):
        for house, standing in samples(20, 60, longest=7, signs="RB*"):
            turned = turned_house(house)
            self.assertEqual(plain(turned_house(turned)), plain(house))
            twice = turned_standing(turned, turned_standing(house, standing))
            self.assertEqual(plain(twice), plain(standing))

    def test_the_light_turned_back_is_the_last_light(self):
        for house, standing in samples(21, 60, longest=7):
            turned_too = turned_house(house), turned_standing(house, standing)
            self.assertTrue(fits(*turned_too))
            for door in range(len(house.doors)):
                self.assertEqual(light_of(*turned_too, door), last_light_of(house, standing, door))
                self.assertEqual(last_light_of(*turned_too, door), light_of(house, standing, door))

    def test_a_run_and_its_reverse_turned_back(self):
        rng = random.Random(22)
        for house, standing in samples(23, 60, longest=6, signs="RB*"):
            deeds, end = [], standing
            for _ in range(10):
                possible = slow_deeds(house, end)
                if possible:
                    deeds.append(rng.choice(possible))
                    end = slow_do(house, end, *deeds[-1])
            back = replay(turned_house(house), turned_standing(house, end), -Run(deeds))
            self.assertEqual(plain(back), plain(turned_standing(house, standing)))

    def test_what_is_no_run_is_none_turned_back(self):
        house = House(2, [(0, 1, "RB")])
        start, end = Standing([("R", 0)], [1]), Standing([("R", 1)], [0])
        with self.assertRaises(BadDeed):
            replay(house, start, Run([(0, 0)]))
        with self.assertRaises(BadDeed):
            replay(turned_house(house), turned_standing(house, end), Run([(0, 0)]))

    def test_standing_requires_fits(self):
        for standing in (Standing([], []), Standing([], [0, 5, 0]), Standing([("G", 0)], [0, 0, 0])):
            with self.assertRaises(InvalidStanding):
                turned_standing(HOUSE, standing)


class Recolouring(unittest.TestCase):

    def test_house(self):
        recoloured = recoloured_house(HOUSE)
        self.assertIsInstance(recoloured, House)
        self.assertEqual(recoloured.rooms, 3)
        self.assertEqual(recoloured.doors, ((0, 1, "BR"), (2, 1, "BBBRR"), (1, 2, "BBR")))
        self.assertEqual(recoloured.trades, "RB")

    def test_house_without_doors(self):
        self.assertEqual(plain(recoloured_house(House(1, []))), ("house", 1, (), "RB"))

    def test_standing(self):
        standing = Standing([("R", 0), ("*", 2), ("B", 1), ("B", 0)], [1, 3, 0])
        recoloured = recoloured_standing(HOUSE, standing)
        self.assertIsInstance(recoloured, Standing)
        self.assertEqual(recoloured.hands, (("B", 0), ("*", 2), ("R", 1), ("R", 0)))
        self.assertEqual(recoloured.places, (1, 3, 0))

    def test_standing_without_hands(self):
        self.assertEqual(plain(recoloured_standing(House(1, []), Standing([], []))), ("standing", (), ()))

    def test_the_same_deeds_are_possible(self):
        for house, standing in samples(24, 60, signs="RB*"):
            recoloured = recoloured_house(house), recoloured_standing(house, standing)
            self.assertEqual(slow_deeds(*recoloured), slow_deeds(house, standing))
            twice = recoloured_house(recoloured[0]), recoloured_standing(*recoloured)
            self.assertEqual(plain(twice), plain((house, standing)))

    def test_other_trades(self):
        for trades in ("BR", "RBG", "RG", "GB", "XY", "BRG"):
            house = House(2, [(0, 1, trades)], trades=trades)
            with self.assertRaises(WrongTrades):
                recoloured_house(house)
            with self.assertRaises(WrongTrades):
                recoloured_standing(house, Standing([], [0]))
            with self.assertRaises(WrongTrades):
                recoloured_standing(house, Standing([("*", 1)], [1]))

    def test_fits_comes_before_the_trades(self):
        house = House(2, [(0, 1, "BR")], trades="BR")
        for standing in (Standing([], []), Standing([], [2]), Standing([("G", 0)], [0])):
            with self.assertRaises(InvalidStanding):
                recoloured_standing(house, standing)
        with self.assertRaises(InvalidStanding):
            recoloured_standing(HOUSE, Standing([("R", 3)], [0, 0, 0]))


if __name__ == "__main__":
    unittest.main()
