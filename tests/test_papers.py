"""Papers: points 23 to 28, and point 17 for lanternhouse/papers.py."""

import itertools
import random
import unittest

from lanternhouse.errors import InvalidStanding, NotDead, NotTree, UnknownPart, WrongTrades
from lanternhouse.house import House
from lanternhouse.papers import (
    closed_rooms, count_papers, greatest_paper, is_paper, join_papers, least_paper, meet_papers,
)
from lanternhouse.standing import Standing

from support import (
    samples, slow_is_paper, slow_lights, slow_live, slow_papers, slow_spread, tree_samples,
)

CHAIN = House(4, [(0, 1, "RB"), (1, 2, "RB"), (2, 3, "RB")])
# A red in room 0, a blue in room 3, the lights B, R and R.
APART = Standing([("R", 0), ("B", 3)], [1, 0, 0])
# The same with the lights R, R and R: the red can walk to the blue.
TOGETHER = Standing([("R", 0), ("B", 3)], [0, 0, 0])
RING = House(3, [(0, 1, "RB"), (1, 2, "RB"), (2, 0, "RB")])
OF_DEAD = (least_paper, greatest_paper, closed_rooms)


class IsPaper(unittest.TestCase):

    def test_papers(self):
        # The lights B, R and B.
        standing = Standing([("R", 0), ("B", 3)], [1, 0, 1])
        for paper in (([0], [3, 2]), ([0], [2, 3])):
            self.assertIs(is_paper(CHAIN, standing, paper), True)
        self.assertIs(is_paper(CHAIN, APART, ([0], [3])), True)
        self.assertIs(is_paper(CHAIN, APART, ([0], [2, 3])), True)

    def test_each_condition_broken_alone(self):
        self.assertIs(is_paper(CHAIN, APART, ([], [3])), False)
        self.assertIs(is_paper(CHAIN, APART, ([0], [])), False)
        # The rooms 1, 2 and 3 hang together by R, and the blue is in room 3.
        self.assertIs(is_paper(CHAIN, APART, ([0, 1], [3])), False)
        self.assertIs(is_paper(CHAIN, APART, ([0, 1, 2, 3], [3])), False)
        # The rooms 0 and 1 hang together by B.
        self.assertIs(is_paper(CHAIN, APART, ([0], [1, 3])), False)
        self.assertIs(is_paper(CHAIN, APART, ([0], [0, 1, 3])), False)

    def test_the_second_end_alone_breaks_it_too(self):
        house = House(2, [(0, 1, "RB"), (1, 0, "RB")])
        for first, second in ((0, 1), (1, 0)):
            self.assertIs(is_paper(house, Standing([("R", first)], [0, 1]), ([first], [])), False)
            self.assertIs(is_paper(house, Standing([("R", first)], [1, 1]), ([first], [])), True)
            self.assertIs(is_paper(house, Standing([("B", second)], [1, 1]), ([], [second])), False)
            self.assertIs(is_paper(house, Standing([("B", second)], [0, 0]), ([], [second])), True)

    def test_without_hands(self):
        for paper in (([], []), ([0, 1, 2, 3], []), ([], [0, 1, 2, 3])):
            self.assertIs(is_paper(CHAIN, Standing([], [0, 1, 0]), paper), True)
        self.assertIs(is_paper(House(1, []), Standing([], []), ([0], [0])), False)
        self.assertIs(is_paper(House(1, []), Standing([("B", 0)], []), ([], [0])), True)

    def test_duplicates_and_any_order(self):
        self.assertIs(is_paper(CHAIN, APART, ([0, 0, 0], [3, 2, 3, 2])), True)
        self.assertIs(is_paper(CHAIN, APART, ((0,), (2, 3, 3))), True)
        self.assertIs(is_paper(CHAIN, APART, [[0] * 300, [3, 2] * 150]), True)
        self.assertIs(is_paper(CHAIN, APART, ([0, 0], [3, 1, 3])), False)

    def test_a_live_standing_has_no_paper(self):
        rooms = [list(part) for size in range(5) for part in itertools.combinations(range(4), size)]
        for reds in rooms:
            for blues in rooms:
                self.assertIs(is_paper(CHAIN, TOGETHER, (reds, blues)), False)

    def test_rooms_that_do_not_exist(self):
        for room in (-1, 4, -4, 999999999, -999999999):
            for paper in (([0, room], [3]), ([0], [3, room]), ([room], [room]), ([room], [])):
                with self.assertRaises(UnknownPart):
                    is_paper(CHAIN, APART, paper)
                with self.assertRaises(UnknownPart):
                    is_paper(CHAIN, TOGETHER, paper)

    def test_against_point_23(self):
        rng = random.Random(50)
        papers = 0
        for house, standing in samples(51, 150):
            rooms = range(house.rooms)
            for _ in range(12):
                reds, blues = [[room for room in rooms if rng.random() < 0.5] for _ in range(2)]
                wanted = slow_is_paper(house, standing, reds, blues)
                self.assertIs(is_paper(house, standing, (reds, blues)), wanted)
                papers += wanted
            for reds, blues in slow_papers(house, standing):
                self.assertIs(is_paper(house, standing, (reds[::-1], blues + blues)), True)
        self.assertGreater(papers, 50)

    def test_order_of_the_requirements(self):
        turned = House(2, [(0, 1, "BR")], trades="BR")
        with self.assertRaises(InvalidStanding):
            is_paper(turned, Standing([("*", 0)], [2]), ([9], [9]))
        with self.assertRaises(UnknownPart):
            is_paper(turned, Standing([("*", 0)], [1]), ([0], [2]))
        with self.assertRaises(UnknownPart):
            is_paper(CHAIN, Standing([("*", 0)], [0, 0, 0]), ([-1], []))
        with self.assertRaises(WrongTrades):
            is_paper(turned, Standing([], [1]), ([], []))
        with self.assertRaises(WrongTrades):
            is_paper(CHAIN, Standing([("*", 0)], [0, 0, 0]), ([0], []))


class LeastAndGreatest(unittest.TestCase):

    def test_a_chain(self):
        # From room 0 the rooms 0 and 1 can be walked to over B.
        self.assertEqual(least_paper(CHAIN, APART), ([0], [2, 3]))
        # From room 3 the rooms 1, 2 and 3 can be walked to over R.
        self.assertEqual(greatest_paper(CHAIN, APART), ([0], [3]))

    def test_kinds(self):
        for ask in (least_paper, greatest_paper):
            paper = ask(CHAIN, APART)
            self.assertIsInstance(paper, tuple)
            self.assertTrue(all(isinstance(rooms, list) for rooms in paper))

    def test_without_hands(self):
        standing = Standing([], [0, 1, 0])
        self.assertEqual(least_paper(CHAIN, standing), ([], [0, 1, 2, 3]))
        self.assertEqual(greatest_paper(CHAIN, standing), ([0, 1, 2, 3], []))

    def test_against_all_papers(self):
        several = 0
        for house, standing in samples(52, 300, most_rooms=5):
            papers = slow_papers(house, standing)
            if not papers:
                continue
            several += len(papers) > 1
            least, greatest = least_paper(house, standing), greatest_paper(house, standing)
            self.assertIn(least, papers)
            self.assertIn(greatest, papers)
            for reds, blues in papers:
                self.assertLessEqual(set(least[0]), set(reds))
                self.assertLessEqual(set(reds), set(greatest[0]))
                self.assertLessEqual(set(greatest[1]), set(blues))
                self.assertLessEqual(set(blues), set(least[1]))
        self.assertGreater(several, 50)


class JoinAndMeet(unittest.TestCase):

    def test_sets(self):
        first, second = ([3, 1, 1], [5, 4]), ([1, 0], [7, 5, 5])
        self.assertEqual(join_papers(first, second), ([0, 1, 3], [5]))
        self.assertEqual(meet_papers(first, second), ([1], [4, 5, 7]))

    def test_kinds(self):
        for form in (join_papers, meet_papers):
            paper = form([(1,), [2]], ([3], ()))
            self.assertIsInstance(paper, tuple)
            self.assertTrue(all(isinstance(rooms, list) for rooms in paper))

    def test_empty_sets(self):
        self.assertEqual(join_papers(([], []), ([], [])), ([], []))
        self.assertEqual(meet_papers(([], []), ([], [])), ([], []))
        self.assertEqual(join_papers(([2], [1]), ([], [])), ([2], []))
        self.assertEqual(meet_papers(([2], [1]), ([], [])), ([], [1]))

    def test_pairs_that_are_no_papers_of_any_house(self):
        first, second = ([-1, 999999999, -2], [-1]), ([-2, 40, -1], [-7, -1, 0])
        self.assertEqual(join_papers(first, second), ([-2, -1, 40, 999999999], [-1]))
        self.assertEqual(meet_papers(first, second), ([-2, -1], [-7, -1, 0]))

    def test_ascending_by_number(self):
        rooms = [16, 9, 2, 33, 8, 1, 64, 10]
        self.assertEqual(join_papers((rooms, rooms), (rooms, rooms)), (sorted(rooms), sorted(rooms)))
        self.assertEqual(meet_papers((rooms, rooms), (rooms, rooms)), (sorted(rooms), sorted(rooms)))

    def test_join_and_meet_of_papers_are_papers(self):
        for house, standing in samples(53, 120):
            papers = slow_papers(house, standing)
            for first in papers[:8]:
                for second in papers[-8:]:
                    self.assertIn(join_papers(first, second), papers)
                    self.assertIn(meet_papers(first, second), papers)


class Counting(unittest.TestCase):

    def test_a_chain(self):
        # Room 0 is in the first set, room 3 in the second one; then the rooms 1
        # and 2 are not in the first one, and room 1 is not in the second one.
        self.assertEqual(count_papers(CHAIN, APART), 2)

    def test_a_live_standing_has_none(self):
        self.assertEqual(count_papers(CHAIN, TOGETHER), 0)
        self.assertEqual(count_papers(House(1, []), Standing([("R", 0), ("B", 0)], [])), 0)

    def test_a_house_of_one_room(self):
        self.assertEqual(count_papers(House(1, []), Standing([], [])), 3)
        self.assertEqual(count_papers(House(1, []), Standing([("R", 0)], [])), 1)
        self.assertEqual(count_papers(House(1, []), Standing([("B", 0), ("B", 0)], [])), 1)

    def test_against_all_pairs_of_sets(self):
        for house, standing in tree_samples(54, 250, most_rooms=5):
            self.assertEqual(count_papers(house, standing), len(slow_papers(house, standing)))

    def test_a_large_tree(self):
        # A star: each of the 15 outer rooms is in the second set or not, if
        # the middle is not in it; with light R none of them is in the first
        # set, unless the middle is.
        star = House(16, [(0, room, "RB") for room in range(1, 16)])
        standing = Standing([], [0] * 15)
        self.assertEqual(count_papers(star, standing), 2 ** 15 * 2 + 1)
        self.assertEqual(count_papers(star, Standing([("R", 7)], [0] * 15)), 1)

    def test_a_long_chain(self):
        chain = House(300, [(room, room + 1, "RB") for room in range(299)])
        self.assertEqual(count_papers(chain, Standing([("R", 299)], [0] * 299)), 1)

    def test_not_tree(self):
        with self.assertRaises(NotTree):
            count_papers(RING, Standing([("R", 0)], [0, 0, 0]))
        with self.assertRaises(NotTree):
            count_papers(House(2, [(0, 1, "RB"), (0, 1, "RB")]), Standing([], [0, 0]))

    def test_order_of_the_requirements(self):
        turned = House(2, [(0, 1, "BR"), (0, 1, "BR")], trades="BR")
        with self.assertRaises(InvalidStanding):
            count_papers(turned, Standing([("*", 0)], [0, 2]))
        with self.assertRaises(WrongTrades):
            count_papers(turned, Standing([], [0, 1]))
        with self.assertRaises(WrongTrades):
            count_papers(RING, Standing([("*", 0)], [0, 0, 0]))


class Closed(unittest.TestCase):

    def test_closed_rooms(self):
        self.assertEqual(closed_rooms(CHAIN, APART), [1, 2])
        self.assertIsInstance(closed_rooms(CHAIN, APART), list)
        self.assertEqual(closed_rooms(CHAIN, Standing([("R", 0)], [0, 0, 0])), [])
        self.assertEqual(closed_rooms(CHAIN, Standing([("R", 2)], [0, 1, 0])), [0, 1])
        self.assertEqual(closed_rooms(CHAIN, Standing([], [0, 1, 0])), [0, 1, 2, 3])

    def test_against_the_spreads(self):
        for house, standing in samples(55, 200, most_rooms=6):
            if not slow_live(house, standing):
                lights = slow_lights(house, standing)
                entered = slow_spread(house, standing, lights, "R") | slow_spread(house, standing, lights, "B")
                wanted = [room for room in range(house.rooms) if room not in entered]
                self.assertEqual(closed_rooms(house, standing), wanted)


class OfDeadStandings(unittest.TestCase):

    def test_not_dead(self):
        for ask in OF_DEAD:
            with self.assertRaises(NotDead):
                ask(CHAIN, TOGETHER)
            with self.assertRaises(NotDead):
                ask(House(1, []), Standing([("R", 0), ("B", 0)], []))

    def test_other_trades(self):
        for ask in OF_DEAD:
            with self.assertRaises(WrongTrades):
                ask(House(2, [(0, 1, "BR")], trades="BR"), Standing([], [0]))
            with self.assertRaises(WrongTrades):
                ask(CHAIN, Standing([("*", 0)], [0, 0, 0]))

    def test_order_of_the_requirements(self):
        for ask in OF_DEAD:
            with self.assertRaises(InvalidStanding):
                ask(House(2, [(0, 1, "BR")], trades="BR"), Standing([("*", 0)], [2]))
            with self.assertRaises(InvalidStanding):
                ask(CHAIN, Standing([("R", 0), ("B", 0)], [0, 0, 2]))
            with self.assertRaises(WrongTrades):
                ask(CHAIN, Standing([("R", 0), ("B", 0), ("*", 1)], [0, 0, 0]))


if __name__ == "__main__":
    unittest.main()
