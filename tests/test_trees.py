"""Trees and rings: points 33 and 34, and point 17 for lanternhouse/trees.py."""

import random
import unittest

from lanternhouse.errors import UnknownPart
from lanternhouse.house import House
from lanternhouse.trees import ring_of, room_distance, rooms_outward, tree_doors, way_between

from support import random_house, slow_tree_doors, slow_way

# Two doors join the rooms 0 and 1; the rooms 1, 2 and 3 form a ring, on which room 4 hangs.
HOUSE = House(5, [(0, 1, "RB"), (1, 0, "RB"), (3, 1, "RB"), (1, 2, "RB"), (2, 3, "RB"), (4, 3, "RB")])
ONE_ROOM = House(1, [])
UNKNOWN = (-1, 5, 6, -6, 999999999, -999999999)


def houses(seed, count, trades="RB"):
    rng = random.Random(seed)
    return [random_house(rng, rng.randint(1, 7), rng.randint(0, 5), trades=trades) for _ in range(count)]


def slow_room_distance(house, first, last):
    """Count the rounds over all doors until the last room is found."""
    found, rounds = {first}, 0
    while last not in found:
        found |= {room for a, b, _ in house.doors if a in found or b in found for room in (a, b)}
        rounds += 1
    return rounds


class TreeDoors(unittest.TestCase):

    def test_the_first_doors_that_join(self):
        self.assertEqual(tree_doors(HOUSE), [0, 2, 3, 5])
        self.assertIsInstance(tree_doors(HOUSE), list)

    def test_the_order_of_the_doors_counts(self):
        self.assertEqual(tree_doors(House(3, [(0, 1, "RB"), (1, 2, "RB"), (2, 0, "RB")])), [0, 1])
        self.assertEqual(tree_doors(House(3, [(2, 0, "RB"), (1, 2, "RB"), (0, 1, "RB")])), [0, 1])
        self.assertEqual(tree_doors(House(3, [(2, 0, "RB"), (0, 2, "RB"), (0, 1, "RB")])), [0, 2])

    def test_two_parts_that_a_later_door_joins(self):
        house = House(4, [(0, 1, "RB"), (3, 2, "RB"), (1, 0, "RB"), (2, 1, "RB"), (0, 3, "RB")])
        self.assertEqual(tree_doors(house), [0, 1, 3])

    def test_all_doors_of_a_tree(self):
        self.assertEqual(tree_doors(House(4, [(3, 2, "RB"), (0, 3, "RB"), (1, 3, "RB")])), [0, 1, 2])

    def test_one_room(self):
        self.assertEqual(tree_doors(ONE_ROOM), [])

    def test_against_a_search_for_chains(self):
        for house in houses(100, 150) + houses(101, 30, trades="XYZ"):
            self.assertEqual(tree_doors(house), slow_tree_doors(house))
            self.assertEqual(len(tree_doors(house)), house.rooms - 1)


class Ways(unittest.TestCase):

    def test_ways(self):
        self.assertEqual(way_between(HOUSE, 0, 4), [0, 2, 5])
        self.assertEqual(way_between(HOUSE, 4, 0), [5, 2, 0])
        self.assertEqual(way_between(HOUSE, 2, 4), [3, 2, 5])

    def test_a_ring_door_is_no_short_cut(self):
        # Door 4 joins the rooms 2 and 3, but it is no tree door.
        self.assertEqual(way_between(HOUSE, 2, 3), [3, 2])
        self.assertEqual(way_between(HOUSE, 3, 2), [2, 3])

    def test_from_a_room_to_itself(self):
        for room in range(5):
            self.assertEqual(way_between(HOUSE, room, room), [])
        self.assertEqual(way_between(ONE_ROOM, 0, 0), [])

    def test_against_a_search_for_ways(self):
        for house in houses(102, 60) + houses(103, 20, trades="XYZ"):
            for first in range(house.rooms):
                for last in range(house.rooms):
                    self.assertEqual(way_between(house, first, last), slow_way(house, first, last))

    def test_a_long_chain(self):
        chain = House(300, [(room, room + 1, "RB") for room in range(299)])
        self.assertEqual(way_between(chain, 0, 299), list(range(299)))

    def test_unknown_rooms(self):
        for room in UNKNOWN:
            for rooms in ((room, 0), (0, room), (room, room)):
                with self.assertRaises(UnknownPart):
                    way_between(HOUSE, *rooms)


class Outward(unittest.TestCase):

    def test_each_room_after_the_room_before_it(self):
        for house in houses(106, 60) + [ONE_ROOM]:
            found = [0]
            for room, door, before in rooms_outward(house):
                self.assertIn(before, found)
                self.assertEqual(way_between(house, before, room), [door])
                self.assertEqual(len(way_between(house, 0, room)), len(way_between(house, 0, before)) + 1)
                found.append(room)
            self.assertEqual(sorted(found), list(range(house.rooms)))


class Rings(unittest.TestCase):

    def test_rings(self):
        self.assertEqual(ring_of(HOUSE, 1), [1, 0])
        # Door 4 is (2, 3): the way goes from room 3 back to room 2.
        self.assertEqual(ring_of(HOUSE, 4), [4, 2, 3])

    def test_the_way_goes_from_the_second_end_to_the_first(self):
        doors = [(0, 1, "RB"), (1, 2, "RB"), (2, 3, "RB")]
        self.assertEqual(ring_of(House(4, doors + [(0, 3, "RB")]), 3), [3, 2, 1, 0])
        self.assertEqual(ring_of(House(4, doors + [(3, 0, "RB")]), 3), [3, 0, 1, 2])

    def test_tree_doors_have_none(self):
        for door in (0, 2, 3, 5):
            self.assertEqual(ring_of(HOUSE, door), [])

    def test_against_the_ways(self):
        rings = 0
        for house in houses(104, 100):
            tree = slow_tree_doors(house)
            for door, (first, second, _) in enumerate(house.doors):
                wanted = [] if door in tree else [door] + slow_way(house, second, first)
                rings += wanted != []
                self.assertEqual(ring_of(house, door), wanted)
        self.assertGreater(rings, 50)

    def test_unknown_doors(self):
        for door in (-1, 6, -6, 999999999, -999999999):
            with self.assertRaises(UnknownPart):
                ring_of(HOUSE, door)
        with self.assertRaises(UnknownPart):
            ring_of(ONE_ROOM, 0)


class Distances(unittest.TestCase):

    def test_any_doors_count(self):
        self.assertEqual(room_distance(HOUSE, 2, 3), 1)
        self.assertEqual(room_distance(HOUSE, 2, 4), 2)
        self.assertEqual(room_distance(HOUSE, 0, 4), 3)

    def test_from_a_room_to_itself(self):
        self.assertEqual(room_distance(HOUSE, 3, 3), 0)
        self.assertEqual(room_distance(ONE_ROOM, 0, 0), 0)

    def test_against_a_search_over_all_doors(self):
        for house in houses(105, 80):
            for first in range(house.rooms):
                for last in range(house.rooms):
                    self.assertEqual(room_distance(house, first, last), slow_room_distance(house, first, last))

    def test_unknown_rooms(self):
        for room in UNKNOWN:
            for rooms in ((room, 0), (0, room), (room, room)):
                with self.assertRaises(UnknownPart):
                    room_distance(HOUSE, *rooms)


if __name__ == "__main__":
    unittest.main()
