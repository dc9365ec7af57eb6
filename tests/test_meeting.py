"""First meetings: point 29, and point 17 for lanternhouse/meeting.py."""

import unittest

from lanternhouse.deeds import Run, replay
from lanternhouse.errors import InvalidStanding, WrongTrades
from lanternhouse.house import House
from lanternhouse.meeting import first_meeting, meeting_distance
from lanternhouse.standing import Standing

from support import mixed, samples, slow_live, slow_meeting_distance

CHAIN = House(4, [(0, 1, "RB"), (1, 2, "RB"), (2, 3, "RB")])


class Meetings(unittest.TestCase):

    def check_meeting(self, house, standing):
        distance = meeting_distance(house, standing)
        red, blue, run = first_meeting(house, standing)
        self.assertIsInstance(first_meeting(house, standing), tuple)
        self.assertIsInstance(run, Run)
        self.assertEqual(len(run), distance)
        self.assertEqual((standing.hands[red][0], standing.hands[blue][0]), ("R", "B"))
        end = replay(house, standing, run)
        self.assertEqual(end.hands[red][1], end.hands[blue][1])

    def test_distances(self):
        hands = [("R", 0), ("B", 3)]
        self.assertEqual(meeting_distance(CHAIN, Standing(hands, [0, 0, 1])), 3)
        self.assertEqual(meeting_distance(CHAIN, Standing(hands, [0, 0, 0])), 3)
        self.assertEqual(meeting_distance(CHAIN, Standing(hands, [1, 1, 1])), 3)
        self.assertEqual(meeting_distance(CHAIN, Standing([("R", 1), ("B", 2)], [0, 1, 0])), 1)
        self.assertEqual(meeting_distance(CHAIN, Standing([("R", 1), ("B", 1)], [0, 1, 0])), 0)

    def test_the_nearest_hands_meet(self):
        standing = Standing([("R", 0), ("B", 3), ("B", 1), ("R", 3), ("R", 2)], [1, 0, 0])
        self.assertEqual(meeting_distance(CHAIN, standing), 0)
        self.assertEqual(first_meeting(CHAIN, standing)[:2], (3, 1))
        standing = Standing([("R", 0), ("R", 0), ("B", 3)], [0, 0, 1])
        self.assertIn(first_meeting(CHAIN, standing)[0], (0, 1))
        self.check_meeting(CHAIN, standing)

    def test_a_meeting_at_once(self):
        standing = Standing([("B", 2), ("R", 1), ("R", 2)], [0, 0, 0])
        red, blue, run = first_meeting(CHAIN, standing)
        self.assertEqual((red, blue, run.deeds), (2, 0, ()))

    def test_the_shorter_way_round_a_ring(self):
        ring = House(5, [(0, 1, "RB"), (1, 2, "RB"), (2, 3, "RB"), (3, 4, "RB"), (4, 0, "RB")])
        standing = Standing([("R", 0), ("B", 3)], [0, 0, 0, 0, 0])
        self.assertEqual(meeting_distance(ring, standing), 2)
        self.check_meeting(ring, standing)
        # Now the shorter way has the door with the light R on the wrong side.
        standing = Standing([("R", 0), ("B", 3)], [0, 0, 0, 0, 1])
        self.assertEqual(meeting_distance(ring, standing), 3)
        self.check_meeting(ring, standing)

    def test_none_for_dead_standings(self):
        for house, standing in (
            (CHAIN, Standing([("R", 0), ("B", 3)], [1, 0, 0])),
            (CHAIN, Standing([("R", 0)], [0, 0, 0])),
            (CHAIN, Standing([("B", 0), ("B", 3)], [0, 0, 0])),
            (CHAIN, Standing([], [0, 0, 0])),
            (House(1, []), Standing([], [])),
        ):
            self.assertIsNone(meeting_distance(house, standing))
            self.assertIsNone(first_meeting(house, standing))

    def test_a_house_of_one_room(self):
        standing = Standing([("B", 0), ("R", 0)], [])
        self.assertEqual(meeting_distance(House(1, []), standing), 0)
        red, blue, run = first_meeting(House(1, []), standing)
        self.assertEqual((red, blue, run.deeds), (1, 0, ()))

    def test_against_a_search_over_all_standings(self):
        far = 0
        for house, standing in samples(60, 400, most_rooms=5, most_hands=3, more_doors=1, longest=3):
            wanted = slow_meeting_distance(house, standing)
            self.assertEqual(meeting_distance(house, standing), wanted)
            far += wanted is not None and wanted > 1
            if wanted is None:
                self.assertIsNone(first_meeting(house, standing))
            else:
                self.check_meeting(house, standing)
        self.assertGreater(far, 10)

    def test_larger_houses(self):
        for house, standing in samples(61, 300, most_rooms=16, most_hands=6, more_doors=8, longest=12):
            if slow_live(house, standing):
                self.check_meeting(house, standing)
            else:
                self.assertIsNone(meeting_distance(house, standing))

    def test_no_meeting_before_the_end(self):
        for house, standing in samples(62, 150, most_rooms=6, most_hands=5):
            if slow_live(house, standing):
                run = first_meeting(house, standing)[2]
                for length in range(len(run)):
                    self.assertFalse(mixed(replay(house, standing, Run(run.deeds[:length]))))


class Requirements(unittest.TestCase):

    def test_fits(self):
        for ask in (meeting_distance, first_meeting):
            for standing in (Standing([], []), Standing([("R", 4)], [0, 0, 0]), Standing([], [0, 0, 2])):
                with self.assertRaises(InvalidStanding):
                    ask(CHAIN, standing)

    def test_two_trades(self):
        turned = House(2, [(0, 1, "BR")], trades="BR")
        for ask in (meeting_distance, first_meeting):
            with self.assertRaises(WrongTrades):
                ask(turned, Standing([("R", 0), ("B", 0)], [0]))
            with self.assertRaises(WrongTrades):
                ask(House(2, [(0, 1, "RGB")], trades="RBG"), Standing([], [0]))
            with self.assertRaises(WrongTrades):
                ask(CHAIN, Standing([("R", 0), ("*", 0)], [0, 0, 0]))

    def test_fits_comes_before_two_trades(self):
        for ask in (meeting_distance, first_meeting):
            with self.assertRaises(InvalidStanding):
                ask(House(2, [(0, 1, "BR")], trades="BR"), Standing([("*", 0)], [-1]))


if __name__ == "__main__":
    unittest.main()
