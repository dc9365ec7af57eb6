"""The clock: points 56 and 57, and point 17 for lanternhouse/clock.py."""

import itertools
import random
import unittest

from lanternhouse.clock import colouring_of, measure_of, odd_ring, period_of, time_of
from lanternhouse.deeds import do, possible_deeds
from lanternhouse.errors import InvalidStanding, NoDoors, NotOdd, WrongTrades
from lanternhouse.house import House
from lanternhouse.planner import plan
from lanternhouse.standing import Standing

from broken import check_requirements, not_odd, other_trades, parts_of, unfit, with_masters
from support import odd_samples, plans_to_make, random_house, slow_tree_doors, slow_way

ONE_ROOM = House(1, [])
# All cycles have the length 2 except that of door 3.
RINGS = House(4, [(0, 1, "RB"), (1, 2, "RB"), (2, 0, "RB"), (2, 3, "RRRB"), (3, 2, "BR")])


def slow_measure(house):
    lengths = [len(cycle) for _, _, cycle in house.doors]
    return max(g for g in range(1, max(lengths) + 1) if all(length % g == 0 for length in lengths))


def slow_heavy(house, door):
    return len(house.doors[door][2]) // slow_measure(house) % 2 == 1


def slow_colourings(house):
    """Try all ways to give 0 or 1 to the rooms."""
    found = []
    heavy = [slow_heavy(house, door) for door in range(len(house.doors))]
    for colours in itertools.product((0, 1), repeat=house.rooms):
        fit = all(
            (colours[first] != colours[second]) == heavy[door]
            for door, (first, second, _) in enumerate(house.doors)
        )
        if fit and colours[0] == 0:
            found.append(list(colours))
    return found


def slow_odd_ring(house):
    for door, (first, second, _) in enumerate(house.doors):
        if door not in slow_tree_doors(house):
            ring = [door] + slow_way(house, second, first)
            if sum(slow_heavy(house, own) for own in ring) % 2 == 1:
                return ring
    return None


def slow_time(house, standing):
    """Add up as point 57 says."""
    measure, colourings = slow_measure(house), slow_colourings(house)
    total = sum(standing.places)
    if not colourings:
        return total % measure
    for door, (_, _, cycle) in enumerate(house.doors):
        if slow_heavy(house, door):
            total += measure * sum(1 for letter in cycle[:standing.places[door]] if letter == "R")
    for trade, room in standing.hands:
        if trade == "R" and colourings[0][room] == 0:
            total += measure
    return total % (2 * measure)


def houses(seed, count, trades="RB", longest=12):
    rng = random.Random(seed)
    made = [random_house(rng, rng.randint(2, 6), rng.randint(0, 3), longest, trades) for _ in range(count)]
    return made + unlike_lengths(rng, count)


def unlike_lengths(rng, count):
    """Make houses whose cycles have one measure, but very unlike lengths."""
    made = []
    for _ in range(count):
        house, measure = random_house(rng, rng.randint(2, 5), rng.randint(0, 3)), rng.choice([2, 3, 4])
        doors = []
        for first, second, _ in house.doors:
            length = measure * rng.choice([1, 2, 3, 4])
            doors.append((first, second, ("RB" + "R" * 20)[:length]))
        made.append(House(house.rooms, doors))
    return made


class Measures(unittest.TestCase):

    def test_measure(self):
        self.assertEqual(measure_of(RINGS), 2)
        self.assertEqual(measure_of(House(2, [(0, 1, "RRBRRB")])), 6)
        self.assertEqual(measure_of(House(2, [(0, 1, "RRBRRB"), (1, 0, "RRRRRRRRB")])), 3)
        self.assertEqual(measure_of(House(2, [(0, 1, "RRBRRB"), (1, 0, "RRB"), (1, 0, "RRRB")])), 1)
        self.assertEqual(measure_of(House(2, [(0, 1, "RB" * 6), (1, 0, "RRRRRRRB")])), 4)

    def test_against_all_divisors(self):
        for house in houses(220, 100) + houses(221, 20, trades="XYZ"):
            self.assertEqual(measure_of(house), slow_measure(house))


class Colourings(unittest.TestCase):

    def test_heavy_doors_separate(self):
        # The measure is 2: the doors of 2 and 6 letters are heavy, that of 4 letters is not.
        house = House(5, [(1, 0, "RB"), (1, 2, "RRRB"), (2, 3, "RRRRRB"), (4, 0, "BRRR")])
        self.assertEqual(colouring_of(house), [0, 1, 1, 0, 0])
        self.assertIsInstance(colouring_of(house), list)
        self.assertIsNone(odd_ring(house))
        self.assertEqual(period_of(house), 4)

    def test_odd_rings(self):
        self.assertIsNone(colouring_of(RINGS))
        self.assertEqual(odd_ring(RINGS), [2, 0, 1])
        self.assertIsInstance(odd_ring(RINGS), list)
        self.assertEqual(period_of(RINGS), 2)

    def test_the_least_ring_door_counts(self):
        # The ring of door 2 has two heavy doors, those of the doors 3 and 4 have one.
        house = House(3, [(0, 1, "RB"), (1, 2, "RRRB"), (0, 2, "RB"), (0, 1, "RBBB"), (1, 2, "BR")])
        self.assertEqual(odd_ring(house), [3, 0])
        house = House(3, [(0, 1, "RB"), (1, 2, "RRRB"), (0, 2, "RB"), (2, 1, "BR"), (0, 1, "RBBB")])
        self.assertEqual(odd_ring(house), [3, 1])

    def test_several_doors_between_two_rooms(self):
        self.assertEqual(colouring_of(House(2, [(0, 1, "RB"), (0, 1, "BR"), (1, 0, "RB")])), [0, 1])
        self.assertEqual(colouring_of(House(2, [(0, 1, "RRRB"), (0, 1, "BRBB"), (1, 0, "RBRB")])), [0, 1])
        house = House(2, [(0, 1, "RRRB"), (0, 1, "BRBB"), (1, 0, "RB")])
        self.assertIsNone(colouring_of(house))
        self.assertEqual(odd_ring(house), [2, 0])
        # With one length only, every door is heavy.
        self.assertIsNone(colouring_of(House(3, [(0, 1, "RRB"), (1, 2, "RRB"), (2, 0, "RRB")])))

    def test_against_all_colourings(self):
        found = {0: 0, 1: 0}
        for house in houses(222, 150) + houses(223, 30, trades="XYZ"):
            wanted = slow_colourings(house)
            found[len(wanted)] += 1
            self.assertEqual(colouring_of(house), wanted[0] if wanted else None)
            self.assertEqual(odd_ring(house), slow_odd_ring(house))
            self.assertEqual(odd_ring(house) is None, wanted != [])
            self.assertEqual(period_of(house), slow_measure(house) * (2 if wanted else 1))
        self.assertGreater(min(found.values()), 40)


class Times(unittest.TestCase):

    def test_with_a_colouring(self):
        # Places 1 + 3, the letter R before place 1 of the heavy door 0, and a red in room 0.
        house = House(3, [(0, 1, "RB"), (1, 2, "RRRB")])
        self.assertEqual(time_of(house, Standing([("R", 0), ("B", 0), ("R", 2)], [1, 3])), (4 + 2 + 2) % 4)
        self.assertEqual(time_of(house, Standing([("R", 1), ("B", 0)], [1, 2])), (3 + 2) % 4)
        self.assertEqual(time_of(house, Standing([], [0, 0])), 0)

    def test_without_a_colouring(self):
        for hands in ([], [("R", 0), ("B", 2)], [("R", 1)]):
            self.assertEqual(time_of(RINGS, Standing(hands, [1, 0, 1, 3, 0])), 1)
            self.assertEqual(time_of(RINGS, Standing(hands, [1, 0, 1, 2, 0])), 0)

    def test_against_point_57(self):
        for house, standing in odd_samples(224, 300, most_rooms=5, hands=(0, 4), longest=12):
            if house.doors:
                self.assertEqual(time_of(house, standing), slow_time(house, standing))

    def test_every_deed_adds_one(self):
        deeds = {2: 0, 4: 0, 6: 0, 8: 0, 12: 0}
        rng = random.Random(225)
        for house, standing in odd_samples(226, 400, most_rooms=4, hands=(1, 5), longest=12):
            for _ in range(4):
                possible = possible_deeds(house, standing)
                if possible:
                    period, before = period_of(house), time_of(house, standing)
                    deeds[period] = deeds.get(period, 0) + 1
                    standing = do(house, standing, *rng.choice(possible))
                    self.assertEqual(time_of(house, standing), (before + 1) % period)
        self.assertGreater(min(deeds.values()), 5)

    def test_the_number_of_deeds_of_a_run(self):
        for house, start, end in plans_to_make(227, 60, hands=(2, 4), longest=8):
            if house.doors:
                run, _ = plan(house, start, end)
                difference = time_of(house, end) - time_of(house, start)
                self.assertEqual(len(run) % period_of(house), difference % period_of(house))


class Requirements(unittest.TestCase):

    def test_a_door(self):
        for house in (ONE_ROOM, House(1, [], trades="XYZ")):
            for function in (measure_of, colouring_of, odd_ring, period_of):
                with self.assertRaises(NoDoors):
                    function(house)

    def test_any_house_with_a_door(self):
        house = House(2, [(0, 1, "XYZ"), (0, 1, "XYZXXY")], trades="XYZ")
        self.assertEqual((measure_of(house), period_of(house)), (3, 3))
        self.assertIsNone(colouring_of(house))
        self.assertEqual(odd_ring(house), [1, 0])

    def test_order_for_the_time(self):
        house = House(3, [(0, 1, "RB"), (1, 2, "RRRB")])
        parts = parts_of(house, standing=Standing([("R", 0)], [0, 0]))
        for break_trades in (other_trades, with_masters):
            check_requirements(self, time_of, ["standing"], parts, [
                (InvalidStanding, unfit("standing")),
                (WrongTrades, break_trades),
                (NotOdd, not_odd),
            ])

            def no_doors(changed):
                changed["rooms"], changed["doors"] = 1, []
                changed["standing"][1] = changed["standing"][1][2:]

            check_requirements(self, time_of, ["standing"], parts, [
                (WrongTrades, break_trades),
                (NoDoors, no_doors),
            ])
        with self.assertRaises(InvalidStanding):
            time_of(ONE_ROOM, Standing([("*", 0)], [0]))


if __name__ == "__main__":
    unittest.main()
