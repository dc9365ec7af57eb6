"""Standings: points 6 to 8, and point 17 for lanternhouse/standing.py."""

import unittest

from lanternhouse.errors import InvalidStanding, UnknownPart
from lanternhouse.house import House
from lanternhouse.standing import Standing, census_of, fits, hands_in, last_light_of, light_of

from support import samples, slow_last_lights, slow_lights

HOUSE = House(3, [(0, 1, "RB"), (1, 2, "RRBB")])
GUILDS = House(2, [(0, 1, "GRBG")], trades="BGR")


class Creating(unittest.TestCase):

    def test_attributes(self):
        standing = Standing([("R", 0), ("*", 2)], [1, 3])
        self.assertEqual(standing.hands, (("R", 0), ("*", 2)))
        self.assertEqual(standing.places, (1, 3))

    def test_attributes_are_tuples(self):
        standing = Standing([["R", 0]], [1])
        self.assertIsInstance(standing.hands, tuple)
        self.assertIsInstance(standing.hands[0], tuple)
        self.assertIsInstance(standing.places, tuple)

    def test_nothing_is_checked(self):
        standing = Standing([("", -5), ("RB", 99), ("x", 0)], [-1, 999999999])
        self.assertEqual(standing.hands, (("", -5), ("RB", 99), ("x", 0)))
        self.assertEqual(standing.places, (-1, 999999999))

    def test_no_hands_and_no_places(self):
        standing = Standing([], [])
        self.assertEqual((standing.hands, standing.places), ((), ()))


class Fitting(unittest.TestCase):

    def test_standings_that_fit(self):
        self.assertIs(fits(HOUSE, Standing([], [0, 0])), True)
        self.assertIs(fits(HOUSE, Standing([("R", 0), ("B", 2), ("*", 1)], [1, 3])), True)
        self.assertIs(fits(HOUSE, Standing([("R", 1)] * 60, [1, 3])), True)
        self.assertIs(fits(House(1, []), Standing([], [])), True)
        self.assertIs(fits(House(1, []), Standing([("B", 0)], [])), True)

    def test_too_few_or_too_many_places(self):
        self.assertIs(fits(HOUSE, Standing([], [0])), False)
        self.assertIs(fits(HOUSE, Standing([], [])), False)
        self.assertIs(fits(HOUSE, Standing([], [0, 0, 0])), False)
        self.assertIs(fits(House(1, []), Standing([], [0])), False)

    def test_places_outside_of_the_cycle(self):
        self.assertIs(fits(HOUSE, Standing([], [2, 0])), False)
        self.assertIs(fits(HOUSE, Standing([], [0, 4])), False)
        self.assertIs(fits(HOUSE, Standing([], [-1, 0])), False)
        self.assertIs(fits(HOUSE, Standing([], [0, -1])), False)
        self.assertIs(fits(HOUSE, Standing([], [3, 1])), False)
        self.assertIs(fits(HOUSE, Standing([], [0, 999999999])), False)

    def test_trades_that_the_house_does_not_have(self):
        for trade in ("G", "r", "", "RB", "**", "R*", " ", "1"):
            self.assertIs(fits(HOUSE, Standing([("R", 0), (trade, 0)], [0, 0])), False)
        self.assertIs(fits(GUILDS, Standing([("G", 0)], [0])), True)
        self.assertIs(fits(GUILDS, Standing([("GR", 0)], [0])), False)

    def test_rooms_that_do_not_exist(self):
        for room in (-1, 3, 999999999, -3):
            self.assertIs(fits(HOUSE, Standing([("R", 0), ("B", room)], [0, 0])), False)
            self.assertIs(fits(HOUSE, Standing([("*", room)], [0, 0])), False)

    def test_the_same_standing_in_another_house(self):
        standing = Standing([("R", 0)], [3])
        self.assertIs(fits(House(2, [(0, 1, "RRRB")]), standing), True)
        self.assertIs(fits(House(2, [(0, 1, "RRB")]), standing), False)


class Lights(unittest.TestCase):

    def test_light(self):
        standing = Standing([], [1, 2])
        self.assertEqual(light_of(HOUSE, standing, 0), "B")
        self.assertEqual(light_of(HOUSE, standing, 1), "B")
        self.assertEqual(light_of(HOUSE, Standing([], [0, 1]), 1), "R")

    def test_last_light(self):
        self.assertEqual(last_light_of(HOUSE, Standing([], [1, 2]), 0), "R")
        self.assertEqual(last_light_of(HOUSE, Standing([], [1, 2]), 1), "R")
        self.assertEqual(last_light_of(HOUSE, Standing([], [0, 3]), 1), "B")

    def test_both_at_place_0_and_at_the_last_place(self):
        house = House(2, [(0, 1, "XYZY")], trades="XYZ")
        self.assertEqual(light_of(house, Standing([], [0]), 0), "X")
        self.assertEqual(last_light_of(house, Standing([], [0]), 0), "Y")
        self.assertEqual(light_of(house, Standing([], [3]), 0), "Y")
        self.assertEqual(last_light_of(house, Standing([], [3]), 0), "Z")

    def test_against_the_cycles(self):
        for house, standing in samples(2, 60, trades="RB"):
            lights, last = slow_lights(house, standing), slow_last_lights(house, standing)
            for door in range(len(house.doors)):
                self.assertEqual(light_of(house, standing, door), lights[door])
                self.assertEqual(last_light_of(house, standing, door), last[door])

    def test_unknown_doors(self):
        for ask in (light_of, last_light_of):
            for door in (-1, 2, -2, 999999999):
                with self.assertRaises(UnknownPart):
                    ask(HOUSE, Standing([], [0, 0]), door)
            with self.assertRaises(UnknownPart):
                ask(House(1, []), Standing([], []), 0)

    def test_fits_comes_before_known(self):
        for ask in (light_of, last_light_of):
            for door in (0, -1, 2):
                with self.assertRaises(InvalidStanding):
                    ask(HOUSE, Standing([], [0, 4]), door)


class HandsAndCensus(unittest.TestCase):

    def setUp(self):
        self.standing = Standing([("B", 2), ("R", 0), ("*", 2), ("R", 2), ("B", 2)], [0, 0])

    def test_hands_in(self):
        self.assertEqual(hands_in(HOUSE, self.standing, 0), [1])
        self.assertEqual(hands_in(HOUSE, self.standing, 1), [])
        self.assertEqual(hands_in(HOUSE, self.standing, 2), [0, 2, 3, 4])
        self.assertIsInstance(hands_in(HOUSE, self.standing, 2), list)

    def test_hands_in_without_doors_and_without_hands(self):
        self.assertEqual(hands_in(House(1, []), Standing([("R", 0), ("*", 0)], []), 0), [0, 1])
        self.assertEqual(hands_in(House(1, []), Standing([], []), 0), [])

    def test_hands_in_unknown_rooms(self):
        for room in (-1, 3, 999999999):
            with self.assertRaises(UnknownPart):
                hands_in(HOUSE, self.standing, room)

    def test_hands_in_fits_comes_before_known(self):
        for room in (0, -1, 3):
            with self.assertRaises(InvalidStanding):
                hands_in(HOUSE, Standing([("G", 0)], [0, 0]), room)

    def test_census(self):
        self.assertEqual(census_of(HOUSE, self.standing), [(1, 0, 0), (0, 0, 0), (1, 2, 1)])
        census = census_of(HOUSE, self.standing)
        self.assertIsInstance(census, list)
        self.assertTrue(all(isinstance(counts, tuple) for counts in census))

    def test_census_in_the_order_of_the_trades(self):
        standing = Standing([("R", 1), ("G", 1), ("G", 1), ("*", 0), ("*", 0), ("*", 0), ("B", 0)], [0])
        self.assertEqual(census_of(GUILDS, standing), [(1, 0, 0, 3), (0, 2, 1, 0)])

    def test_census_without_doors_and_without_hands(self):
        self.assertEqual(census_of(House(1, []), Standing([], [])), [(0, 0, 0)])
        self.assertEqual(census_of(HOUSE, Standing([], [0, 0])), [(0, 0, 0)] * 3)

    def test_census_requires_fits(self):
        for standing in (Standing([], []), Standing([("R", 3)], [0, 0]), Standing([("G", 0)], [0, 0])):
            with self.assertRaises(InvalidStanding):
                census_of(HOUSE, standing)


if __name__ == "__main__":
    unittest.main()
