"""Deeds and runs: points 9 to 11, and point 17 for lanternhouse/deeds.py."""

import random
import unittest

from lanternhouse.deeds import Run, can_do, course, do, passes_of, possible_deeds, replay
from lanternhouse.errors import BadDeed, InvalidStanding, NotPossible, UnknownPart
from lanternhouse.house import House
from lanternhouse.standing import Standing

from support import plain, samples, slow_deeds, slow_do

HOUSE = House(3, [(0, 1, "RB"), (1, 2, "RRB")])
START = Standing([("R", 0), ("B", 1), ("*", 1), ("R", 1)], [0, 2])
# It has a place too many, so it does not fit.
UNFIT = Standing([("R", 0)], [0, 0, 0])


class Runs(unittest.TestCase):

    def test_deeds(self):
        run = Run([(0, 1), [2, 3]])
        self.assertEqual(run.deeds, ((0, 1), (2, 3)))
        self.assertIsInstance(run.deeds, tuple)
        self.assertTrue(all(isinstance(deed, tuple) for deed in run.deeds))
        self.assertEqual(Run(((5, 6),)).deeds, ((5, 6),))

    def test_length(self):
        self.assertEqual(len(Run([])), 0)
        self.assertEqual(len(Run([(0, 1), (0, 1), (-4, 7)])), 3)

    def test_iteration(self):
        run = Run([(0, 1), [2, 3]])
        self.assertEqual([deed for deed in run], [(0, 1), (2, 3)])
        self.assertEqual(list(run), [(0, 1), (2, 3)])
        self.assertEqual(list(Run([])), [])

    def test_iterations_in_each_other(self):
        run = Run([(0, 1), (2, 3)])
        self.assertEqual([(one[0], other[0]) for one in run for other in run], [(0, 0), (0, 2), (2, 0), (2, 2)])

    def test_sum(self):
        first, second = Run([(0, 1), (2, 3)]), Run([(4, 5)])
        both = first + second
        self.assertIsInstance(both, Run)
        self.assertEqual(both.deeds, ((0, 1), (2, 3), (4, 5)))
        self.assertEqual((second + first).deeds, ((4, 5), (0, 1), (2, 3)))
        self.assertEqual((first.deeds, second.deeds), (((0, 1), (2, 3)), ((4, 5),)))

    def test_sum_with_the_empty_run(self):
        run = Run([(0, 1)])
        self.assertEqual((run + Run([])).deeds, ((0, 1),))
        self.assertEqual((Run([]) + run).deeds, ((0, 1),))
        self.assertEqual((Run([]) + Run([])).deeds, ())

    def test_sum_with_itself(self):
        run = Run([(0, 1), (2, 3)])
        run += run
        self.assertEqual(run.deeds, ((0, 1), (2, 3), (0, 1), (2, 3)))

    def test_reverse(self):
        run = Run([(0, 1), (2, 3), (0, 5)])
        back = -run
        self.assertIsInstance(back, Run)
        self.assertEqual(back.deeds, ((0, 5), (2, 3), (0, 1)))
        self.assertEqual(run.deeds, ((0, 1), (2, 3), (0, 5)))
        self.assertEqual((-back).deeds, run.deeds)
        self.assertEqual((-Run([])).deeds, ())


class SingleDeeds(unittest.TestCase):

    def test_can_do(self):
        possible = [(hand, door) for hand in range(4) for door in range(2) if can_do(HOUSE, START, hand, door)]
        self.assertEqual(possible, [(0, 0), (1, 1), (2, 0), (2, 1), (3, 0)])
        self.assertIs(can_do(HOUSE, START, 0, 0), True)
        self.assertIs(can_do(HOUSE, START, 1, 0), False)

    def test_can_do_asks_for_an_end_of_the_door(self):
        self.assertIs(can_do(HOUSE, Standing([("B", 0)], [0, 2]), 0, 1), False)
        self.assertIs(can_do(HOUSE, Standing([("*", 0)], [0, 2]), 0, 1), False)

    def test_can_do_parts_that_do_not_exist(self):
        for hand, door in ((-1, 0), (4, 0), (0, -1), (0, 2), (-4, 0), (0, -2), (999999999, 0), (0, -999999999)):
            self.assertIs(can_do(HOUSE, START, hand, door), False)
        self.assertIs(can_do(House(1, []), Standing([], []), 0, 0), False)

    def test_can_do_requires_fits(self):
        for hand, door in ((0, 0), (-1, 0), (0, 5)):
            with self.assertRaises(InvalidStanding):
                can_do(HOUSE, UNFIT, hand, door)

    def test_do(self):
        after = do(HOUSE, START, 0, 0)
        self.assertIsInstance(after, Standing)
        self.assertEqual(after.hands, (("R", 1), ("B", 1), ("*", 1), ("R", 1)))
        self.assertEqual(after.places, (1, 2))
        self.assertEqual((START.hands[0], START.places), (("R", 0), (0, 2)))

    def test_do_leads_from_both_ends(self):
        self.assertEqual(do(HOUSE, START, 3, 0).hands[3], ("R", 0))
        self.assertEqual(do(HOUSE, Standing([("B", 2)], [0, 2]), 0, 1).hands, (("B", 1),))

    def test_the_last_place_steps_to_0(self):
        self.assertEqual(do(HOUSE, START, 1, 1).places, (0, 0))
        self.assertEqual(do(HOUSE, Standing([("B", 1)], [1, 1]), 0, 0).places, (0, 1))

    def test_a_master_passes_at_every_light(self):
        house = House(2, [(0, 1, "RBG")], trades="RBG")
        for place in range(3):
            after = do(house, Standing([("*", 1)], [place]), 0, 0)
            self.assertEqual((after.hands, after.places), ((("*", 0),), ((place + 1) % 3,)))

    def test_do_deeds_that_are_not_possible(self):
        for hand, door in ((1, 0), (0, 1), (3, 1)):
            with self.assertRaises(NotPossible) as caught:
                do(HOUSE, START, hand, door)
            self.assertEqual((caught.exception.hand, caught.exception.door), (hand, door))

    def test_do_unknown_parts(self):
        for hand, door in ((-1, 0), (4, 0), (0, -1), (0, 2), (-1, -1), (999999999, 0), (-4, -2)):
            with self.assertRaises(UnknownPart):
                do(HOUSE, START, hand, door)

    def test_order_of_the_requirements_of_do(self):
        for hand, door in ((-1, 0), (0, 7), (1, 1)):
            with self.assertRaises(InvalidStanding):
                do(HOUSE, UNFIT, hand, door)
        # The hand 1 could not pass any door here, and the door 2 does not exist.
        with self.assertRaises(UnknownPart):
            do(HOUSE, Standing([("R", 0), ("R", 2)], [1, 2]), 1, 2)

    def test_possible_deeds(self):
        self.assertEqual(possible_deeds(HOUSE, START), [(0, 0), (1, 1), (2, 0), (2, 1), (3, 0)])
        deeds = possible_deeds(HOUSE, START)
        self.assertIsInstance(deeds, list)
        self.assertTrue(all(isinstance(deed, tuple) for deed in deeds))

    def test_possible_deeds_of_nothing(self):
        self.assertEqual(possible_deeds(House(1, []), Standing([("R", 0), ("*", 0)], [])), [])
        self.assertEqual(possible_deeds(HOUSE, Standing([], [0, 0])), [])

    def test_possible_deeds_requires_fits(self):
        with self.assertRaises(InvalidStanding):
            possible_deeds(HOUSE, UNFIT)

    def test_against_point_9(self):
        tried = samples(9, 80, trades="RBG", signs="RBG*", longest=5) + samples(10, 80)
        for house, standing in tried:
            deeds = slow_deeds(house, standing)
            self.assertEqual(possible_deeds(house, standing), deeds)
            for hand in range(-1, len(standing.hands) + 1):
                for door in range(-1, len(house.doors) + 1):
                    self.assertEqual(can_do(house, standing, hand, door), (hand, door) in deeds)
            for hand, door in deeds:
                wanted = slow_do(house, standing, hand, door)
                self.assertEqual(plain(do(house, standing, hand, door)), plain(wanted))


class Replaying(unittest.TestCase):

    def test_replay(self):
        run = Run([(0, 0), (1, 1), (1, 1)])
        with self.assertRaises(BadDeed) as caught:
            replay(HOUSE, START, run)
        self.assertEqual(caught.exception.at, 2)
        end = replay(HOUSE, START, Run([(0, 0), (1, 1), (0, 1), (2, 0)]))
        self.assertEqual(end.hands, (("R", 2), ("B", 2), ("*", 0), ("R", 1)))
        self.assertEqual(end.places, (0, 1))

    def test_the_empty_run(self):
        end = replay(HOUSE, START, Run([]))
        self.assertIsInstance(end, Standing)
        self.assertEqual(plain(end), plain(START))
        self.assertEqual([plain(one) for one in course(HOUSE, START, Run([]))], [plain(START)])

    def test_course(self):
        standings = course(HOUSE, START, Run([(0, 0), (1, 1)]))
        self.assertIsInstance(standings, list)
        self.assertEqual([one.hands[0] for one in standings], [("R", 0), ("R", 1), ("R", 1)])
        self.assertEqual([one.hands[1] for one in standings], [("B", 1), ("B", 1), ("B", 2)])
        self.assertEqual([one.places for one in standings], [(0, 2), (1, 2), (1, 0)])

    def test_the_first_bad_deed_is_named(self):
        for walk in (replay, course):
            for deeds, at in (
                ([(1, 0)], 0), ([(-1, 0)], 0), ([(0, -1)], 0), ([(4, 0)], 0), ([(0, 2)], 0),
                ([(0, 0), (0, 0), (9, 9)], 1), ([(0, 0), (1, 1), (0, -2), (1, 0)], 2),
                ([(0, 0), (-4, 1)], 1),
            ):
                with self.assertRaises(BadDeed) as caught:
                    walk(HOUSE, START, Run(deeds))
                self.assertEqual(caught.exception.at, at)

    def test_fits_comes_before_the_deeds(self):
        for walk in (replay, course):
            for deeds in ([], [(0, 0)], [(7, 7)]):
                with self.assertRaises(InvalidStanding):
                    walk(HOUSE, UNFIT, Run(deeds))

    def test_random_walks(self):
        rng = random.Random(11)
        for house, standing in samples(12, 60, signs="RB*"):
            deeds, reached = [], [standing]
            for _ in range(12):
                possible = slow_deeds(house, reached[-1])
                if possible:
                    deeds.append(rng.choice(possible))
                    reached.append(slow_do(house, reached[-1], *deeds[-1]))
            run = Run(deeds)
            self.assertEqual(plain(replay(house, standing, run)), plain(reached[-1]))
            self.assertEqual(plain(course(house, standing, run)), plain(reached))

    def test_some_thousand_deeds(self):
        house = House(2, [(0, 1, "RB"), (0, 1, "RRRB")])
        standing = Standing([("R", 0), ("B", 0)], [0, 0])
        run = Run([(0, 0), (1, 0)] * 2500)
        standings = course(house, standing, run)
        self.assertEqual(len(standings), 5001)
        self.assertEqual(plain(standings[4999]), ("standing", (("R", 0), ("B", 1)), (1, 0)))
        self.assertEqual(plain(standings[-1]), plain(standing))
        long = Run([(0, 0), (1, 0)] * 200000)
        self.assertEqual(plain(replay(house, standing, long)), plain(standing))
        with self.assertRaises(BadDeed) as caught:
            replay(house, standing, long + Run([(1, 0)]))
        self.assertEqual(caught.exception.at, 400000)


class Passes(unittest.TestCase):

    def test_passes(self):
        self.assertEqual(passes_of(HOUSE, Run([(0, 1), (3, 1), (0, 0), (1, 1)])), [1, 3])
        self.assertEqual(passes_of(HOUSE, Run([])), [0, 0])
        self.assertEqual(passes_of(House(1, []), Run([])), [])
        self.assertIsInstance(passes_of(HOUSE, Run([])), list)

    def test_the_hands_are_not_checked(self):
        self.assertEqual(passes_of(HOUSE, Run([(-1, 1), (999999999, 1)])), [0, 2])

    def test_unknown_doors(self):
        for door in (-1, 2, -2, 999999999):
            with self.assertRaises(UnknownPart):
                passes_of(HOUSE, Run([(0, 0), (0, door)]))
        with self.assertRaises(UnknownPart):
            passes_of(House(1, []), Run([(0, 0)]))


if __name__ == "__main__":
    unittest.main()
