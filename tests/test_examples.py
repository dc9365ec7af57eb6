"""The two small houses of point 82."""

import unittest

from lanternhouse.clock import colouring_of, measure_of, odd_ring, period_of, time_of
from lanternhouse.deeds import Run, do, replay
from lanternhouse.farewell import farewell, farewell_count
from lanternhouse.house import House
from lanternhouse.lamps import change_lamps, quicken
from lanternhouse.ledgers import ledgers_of
from lanternhouse.meeting import first_meeting, meeting_distance
from lanternhouse.papers import closed_rooms, count_papers, greatest_paper, is_paper, least_paper
from lanternhouse.reach import is_live, is_rooted, meeting_rooms, root_rooms, spread_of
from lanternhouse.removal import shortest_stretch
from lanternhouse.standing import Standing, last_light_of, light_of


class FirstHouse(unittest.TestCase):

    def setUp(self):
        self.house = House(3, [(0, 1, "RB"), (1, 2, "RRRB")])
        self.standing = Standing([("R", 0), ("B", 2)], [0, 3])

    def test_lights(self):
        self.assertEqual([light_of(self.house, self.standing, door) for door in (0, 1)], ["R", "B"])
        self.assertEqual([last_light_of(self.house, self.standing, door) for door in (0, 1)], ["B", "R"])

    def test_reach(self):
        self.assertEqual(spread_of(self.house, self.standing, "R"), [0, 1])
        self.assertEqual(spread_of(self.house, self.standing, "B"), [1, 2])
        self.assertIs(is_live(self.house, self.standing), True)
        self.assertEqual(meeting_rooms(self.house, self.standing), [1])
        self.assertIs(is_rooted(self.house, self.standing), False)
        self.assertEqual(root_rooms(self.house, self.standing), [])

    def test_first_meeting(self):
        self.assertEqual(meeting_distance(self.house, self.standing), 2)
        end = replay(self.house, self.standing, Run([(0, 0), (1, 1)]))
        self.assertEqual(end.hands, (("R", 1), ("B", 1)))
        red, blue, run = first_meeting(self.house, self.standing)
        self.assertEqual((red, blue, len(run)), (0, 1, 2))

    def test_clock(self):
        self.assertEqual(measure_of(self.house), 2)
        # Door 0 is heavy, door 1 is not.
        self.assertEqual(colouring_of(self.house), [0, 1, 1])
        self.assertIsNone(odd_ring(self.house))
        self.assertEqual(period_of(self.house), 4)
        self.assertEqual(time_of(self.house, self.standing), 1)

    def test_shortest_stretch(self):
        self.assertEqual(shortest_stretch("RRRB", 0, 1, 1), 4)
        self.assertEqual(shortest_stretch("RRRB", 2, 1, 1), 2)

    def test_after_a_deed(self):
        after = do(self.house, self.standing, 0, 0)
        self.assertEqual(after.places, (1, 3))
        self.assertEqual(time_of(self.house, after), 2)


class SecondHouse(unittest.TestCase):

    def setUp(self):
        self.house = House(3, [(0, 1, "RB"), (1, 2, "RB")])
        self.standing = Standing([("R", 0), ("B", 2)], [1, 0])

    def test_lights(self):
        self.assertEqual([light_of(self.house, self.standing, door) for door in (0, 1)], ["B", "R"])

    def test_dead(self):
        self.assertIs(is_live(self.house, self.standing), False)
        self.assertEqual(closed_rooms(self.house, self.standing), [1])
        self.assertIsNone(meeting_distance(self.house, self.standing))

    def test_its_only_paper(self):
        self.assertEqual(count_papers(self.house, self.standing), 1)
        self.assertEqual(least_paper(self.house, self.standing), ([0], [2]))
        self.assertEqual(greatest_paper(self.house, self.standing), ([0], [2]))
        self.assertIs(is_paper(self.house, self.standing, ([0], [2])), True)

    def test_ledgers(self):
        self.assertEqual(ledgers_of(self.house, self.standing), [0, 1, 1])

    def test_farewells(self):
        for trade in "RB":
            self.assertEqual(farewell_count(self.house, self.standing, trade), 0)
            self.assertEqual(farewell(self.house, self.standing, trade).deeds, ())

    def test_quickened_by_one_door(self):
        doors = quicken(self.house, self.standing)
        self.assertEqual(len(doors), 1)
        self.assertIs(is_live(self.house, change_lamps(self.house, self.standing, doors)), True)


if __name__ == "__main__":
    unittest.main()
