"""Lamps: points 30 to 32, and point 17 for lanternhouse/lamps.py."""

import random
import unittest

from lanternhouse.errors import InvalidStanding, UnknownPart, WrongTrades
from lanternhouse.house import House
from lanternhouse.lamps import change_lamps, closeness, killing_lamps, quicken
from lanternhouse.standing import Standing

from support import (
    door_sets, mixed, plain, random_cycle, samples, slow_change, slow_distance, slow_lights, slow_live,
)

CHAIN = House(4, [(0, 1, "RRRB"), (1, 2, "RBB"), (3, 2, "RB")])
TURNED = House(2, [(0, 1, "BR")], trades="BR")
OF_STANDINGS = (quicken, closeness, killing_lamps)


def chain_samples(seed, count):
    """Make chains of 7 rooms, with doors in any order, a red in room 0 and a blue in room 6."""
    rng = random.Random(seed)
    made = []
    for _ in range(count):
        ends = [(room, room + 1) for room in range(6)]
        rng.shuffle(ends)
        house = House(7, [(first, second, random_cycle(rng, 4)) for first, second in ends])
        places = [rng.randrange(len(cycle)) for _, _, cycle in house.doors]
        made.append((house, Standing([("R", 0), ("B", 6)], places)))
    return made


class Changing(unittest.TestCase):

    def test_over_several_equal_letters(self):
        hands = [("R", 0), ("B", 3)]
        after = change_lamps(CHAIN, Standing(hands, [0, 0, 0]), [0])
        self.assertIsInstance(after, Standing)
        self.assertEqual((after.hands, after.places), (tuple(hands), (3, 0, 0)))
        self.assertEqual(change_lamps(CHAIN, Standing(hands, [1, 0, 0]), [0]).places, (3, 0, 0))
        self.assertEqual(change_lamps(CHAIN, Standing(hands, [0, 1, 0]), [1]).places, (0, 0, 0))

    def test_round_the_end_of_the_cycle(self):
        self.assertEqual(change_lamps(CHAIN, Standing([], [3, 2, 1]), [0, 1, 2]).places, (0, 0, 0))
        house = House(2, [(0, 1, "RBRR")])
        self.assertEqual(change_lamps(house, Standing([], [2]), [0]).places, (1,))
        self.assertEqual(change_lamps(house, Standing([], [3]), [0]).places, (1,))

    def test_duplicates_count_once(self):
        self.assertEqual(change_lamps(CHAIN, Standing([], [0, 0, 0]), [2, 2]).places, (0, 0, 1))
        self.assertEqual(change_lamps(CHAIN, Standing([], [0, 0, 0]), [2, 1, 2, 2, 1]).places, (0, 1, 1))
        self.assertEqual(change_lamps(CHAIN, Standing([], [0, 0, 0]), [0] * 300).places, (3, 0, 0))

    def test_the_empty_list(self):
        standing = Standing([("R", 0)], [2, 1, 0])
        self.assertEqual(plain(change_lamps(CHAIN, standing, [])), plain(standing))
        self.assertEqual(plain(change_lamps(House(1, []), Standing([], []), [])), ("standing", (), ()))

    def test_unknown_doors(self):
        for doors in ([-1], [3], [0, 3], [0, 1, -3], [999999999]):
            with self.assertRaises(UnknownPart):
                change_lamps(CHAIN, Standing([], [0, 0, 0]), doors)

    def test_against_point_30(self):
        rng = random.Random(70)
        for house, standing in samples(71, 150, longest=7):
            for _ in range(4):
                doors = [rng.randrange(len(house.doors)) for _ in range(3)] if house.doors else []
                wanted = plain(slow_change(house, standing, doors))
                self.assertEqual(plain(change_lamps(house, standing, doors)), wanted)

    def test_order_of_the_requirements(self):
        with self.assertRaises(InvalidStanding):
            change_lamps(TURNED, Standing([("*", 0)], [2]), [5])
        with self.assertRaises(InvalidStanding):
            change_lamps(CHAIN, Standing([], [0, 0]), [0])
        with self.assertRaises(UnknownPart):
            change_lamps(TURNED, Standing([("*", 0)], [0]), [1])
        with self.assertRaises(UnknownPart):
            change_lamps(CHAIN, Standing([("*", 0)], [0, 0, 0]), [-1])
        for doors in ([], [0]):
            with self.assertRaises(WrongTrades):
                change_lamps(TURNED, Standing([], [0]), doors)
            with self.assertRaises(WrongTrades):
                change_lamps(CHAIN, Standing([("*", 0)], [0, 0, 0]), doors)
        with self.assertRaises(WrongTrades):
            change_lamps(House(2, [(0, 1, "RBG")], trades="RBG"), Standing([], [0]), [0])


class Quickening(unittest.TestCase):

    def test_live_standings(self):
        self.assertEqual(quicken(CHAIN, Standing([("R", 1), ("B", 1)], [0, 0, 0])), [])
        self.assertEqual(quicken(CHAIN, Standing([("R", 0), ("B", 3)], [0, 0, 1])), [])
        self.assertIsInstance(quicken(CHAIN, Standing([("R", 0), ("B", 3)], [0, 0, 1])), list)

    def test_dead_standings(self):
        hands = [("R", 0), ("B", 3)]
        # The lights are B, R and R: the red can walk if door 0 changes.
        self.assertEqual(quicken(CHAIN, Standing(hands, [3, 0, 0])), [0])
        # The lights are B, B and R: the blue can walk if door 2 changes.
        self.assertEqual(quicken(CHAIN, Standing(hands, [3, 1, 0])), [2])
        # The lights are B, R and B: either of the first two doors will do.
        self.assertIn(quicken(CHAIN, Standing(hands, [3, 0, 1])), ([0], [1]))

    def test_no_red_or_no_blue(self):
        for hands in ([], [("R", 0)], [("B", 3), ("B", 0)]):
            self.assertIsNone(quicken(CHAIN, Standing(hands, [0, 0, 0])))
            self.assertIsNone(closeness(CHAIN, Standing(hands, [0, 0, 0])))
        self.assertIsNone(quicken(House(1, []), Standing([("R", 0)], [])))
        self.assertIsNone(closeness(House(1, []), Standing([("B", 0)], [])))

    def test_a_house_of_one_room(self):
        both = Standing([("R", 0), ("B", 0)], [])
        self.assertEqual(quicken(House(1, []), both), [])
        self.assertEqual(closeness(House(1, []), both), 0)

    def test_against_all_sets_of_doors(self):
        most = 0
        for house, standing in samples(72, 300, most_rooms=6, more_doors=2) + chain_samples(75, 100):
            doors = quicken(house, standing)
            able = [some for some in door_sets(house) if slow_live(house, slow_change(house, standing, some))]
            if doors is None:
                self.assertEqual(able, [])
                continue
            self.assertEqual(len(doors), len(able[0]))
            self.assertIn(doors, able)
            self.assertEqual(doors, sorted(set(doors)))
            self.assertLessEqual(2 * len(doors), closeness(house, standing))
            most = max(most, len(doors))
        self.assertGreaterEqual(most, 2)

    def test_a_cheap_way_with_more_doors(self):
        # The red walks 0, 1, 2, 3 and the blue 4, 3; the door from 0 to 2 has the light B.
        house = House(5, [(0, 2, "BR"), (0, 1, "RB"), (1, 2, "RB"), (2, 3, "RB"), (3, 4, "BR")])
        standing = Standing([("R", 0), ("B", 4)], [0, 0, 0, 0, 0])
        self.assertEqual(quicken(house, standing), [])
        self.assertEqual(closeness(house, standing), 3)
        recoloured = House(5, [(0, 2, "RB"), (0, 1, "BR"), (1, 2, "BR"), (2, 3, "BR"), (3, 4, "RB")])
        self.assertEqual(quicken(recoloured, Standing([("B", 0), ("R", 4)], [0, 0, 0, 0, 0])), [])

    def test_several_doors_in_ascending_order(self):
        chain = House(7, [(room, room + 1, "RB") for room in (5, 4, 3, 2, 1, 0)])
        hands = [("R", 0), ("B", 6)]
        # The worst lights: B on the side of the red, R on the side of the blue.
        doors = quicken(chain, Standing(hands, [0, 0, 0, 1, 1, 1]))
        self.assertEqual(len(doors), 3)
        self.assertEqual(doors, sorted(doors))
        self.assertTrue(slow_live(chain, slow_change(chain, Standing(hands, [0, 0, 0, 1, 1, 1]), doors)))

    def test_closeness(self):
        hands = [("R", 0), ("B", 3)]
        for places in ([0, 0, 0], [3, 0, 1], [0, 2, 1]):
            self.assertEqual(closeness(CHAIN, Standing(hands, places)), 3)
        self.assertEqual(closeness(CHAIN, Standing([("R", 2), ("B", 2), ("B", 0)], [0, 0, 0])), 0)
        self.assertEqual(closeness(CHAIN, Standing([("R", 2), ("B", 3), ("B", 0)], [0, 0, 0])), 1)

    def test_closeness_against_rounds_of_steps(self):
        for house, standing in samples(73, 200, most_rooms=12, more_doors=4):
            self.assertEqual(closeness(house, standing), slow_distance(house, standing))


class Killing(unittest.TestCase):

    def test_a_live_standing(self):
        standing = Standing([("R", 0), ("B", 3)], [0, 0, 1])
        self.assertEqual(killing_lamps(CHAIN, standing), [0, 2])
        self.assertIsInstance(killing_lamps(CHAIN, standing), list)

    def test_a_dead_standing(self):
        # The lights are R, R and R, without a blue, and B, R and R.
        self.assertEqual(killing_lamps(CHAIN, Standing([("R", 0)], [0, 0, 0])), [0])
        self.assertEqual(killing_lamps(CHAIN, Standing([("R", 1), ("R", 2)], [3, 0, 0])), [1, 2])
        self.assertEqual(killing_lamps(CHAIN, Standing([("R", 0), ("B", 3)], [3, 0, 0])), [])
        self.assertEqual(killing_lamps(CHAIN, Standing([], [0, 0, 0])), [])

    def test_both_ends_count(self):
        for room, wanted in ((0, [0]), (1, [0, 1]), (2, [1, 2]), (3, [2])):
            self.assertEqual(killing_lamps(CHAIN, Standing([("R", room)], [0, 0, 0])), wanted)
            self.assertEqual(killing_lamps(CHAIN, Standing([("B", room)], [0, 0, 0])), [])
            self.assertEqual(killing_lamps(CHAIN, Standing([("B", room)], [3, 1, 1])), wanted)

    def test_none(self):
        self.assertIsNone(killing_lamps(CHAIN, Standing([("R", 1), ("B", 1)], [0, 0, 0])))
        for hands in ([("R", 1), ("B", 2)], [("B", 1), ("R", 2)], [("R", 2), ("B", 3), ("B", 0)]):
            for places in ([0, 0, 0], [3, 1, 1]):
                self.assertIsNone(killing_lamps(CHAIN, Standing(hands, places)))
        self.assertIsNone(killing_lamps(House(1, []), Standing([("R", 0), ("B", 0)], [])))

    def test_a_house_of_one_room(self):
        self.assertEqual(killing_lamps(House(1, []), Standing([("R", 0)], [])), [])

    def test_against_all_sets_of_doors(self):
        killed = 0
        for house, standing in samples(74, 300, most_rooms=6, most_hands=3):
            lamps = killing_lamps(house, standing)
            if lamps is None:
                dead = [some for some in door_sets(house) if not slow_live(house, slow_change(house, standing, some))]
                self.assertEqual(dead, [])
                continue
            self.assertFalse(mixed(standing))
            self.assertFalse(slow_live(house, slow_change(house, standing, lamps)))
            killed += slow_live(house, standing)
            lights = slow_lights(house, standing)
            self.assertEqual(lamps, [
                door
                for door, (first, second, _) in enumerate(house.doors)
                if any(trade == lights[door] and room in (first, second) for trade, room in standing.hands)
            ])
        self.assertGreater(killed, 5)


class Requirements(unittest.TestCase):

    def test_fits(self):
        for ask in OF_STANDINGS:
            for standing in (Standing([], []), Standing([("R", 4)], [0, 0, 0]), Standing([], [0, 3, 0])):
                with self.assertRaises(InvalidStanding):
                    ask(CHAIN, standing)

    def test_two_trades(self):
        for ask in OF_STANDINGS:
            with self.assertRaises(WrongTrades):
                ask(TURNED, Standing([("R", 0), ("B", 1)], [0]))
            with self.assertRaises(WrongTrades):
                ask(CHAIN, Standing([("R", 0), ("*", 0)], [0, 0, 0]))

    def test_fits_comes_before_two_trades(self):
        for ask in OF_STANDINGS:
            with self.assertRaises(InvalidStanding):
                ask(TURNED, Standing([("*", 0)], [2]))


if __name__ == "__main__":
    unittest.main()
