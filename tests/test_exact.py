"""Exact plans: points 59 and 60, and point 17 for lanternhouse/exact.py."""

import random
import unittest

from lanternhouse.clock import colouring_of, period_of, time_of
from lanternhouse.deeds import Run
from lanternhouse.errors import (
    InvalidStanding, NoDoors, NotLive, NotOdd, NotRooted, TooFewHands, UnlikeHands, WrongTrades,
)
from lanternhouse.exact import exact_plan, sure_count
from lanternhouse.house import House
from lanternhouse.standing import Standing

from broken import check_requirements, fewer_hands, not_odd, other_hands, other_trades, parts_of, unfit, with_masters
from support import (
    another_standing, level, odd_house, plain, plans_to_make, random_standing, slow_bound, slow_ledger, slow_live,
    slow_replay, slow_rooted,
)

CHAIN = House(4, [(0, 1, "RRRB"), (1, 2, "RBBB"), (2, 3, "RB")])
RING = House(3, [(0, 1, "RB"), (1, 2, "RRRB"), (2, 0, "BR")])


def right_remainder(house, start, end):
    return (time_of(house, end) - time_of(house, start)) % period_of(house)


def questions(seed, count, **limits):
    """Make triples of a house with a door, a live start and a rooted end with the same ledgers."""
    return [made for made in plans_to_make(seed, count, **limits) if made[0].doors]


class Sure(unittest.TestCase):

    def check_sure(self, house, start, end):
        sure = sure_count(house, start, end)
        self.assertIsInstance(sure, int)
        self.assertGreaterEqual(sure, 0)
        longest = max(len(cycle) for _, _, cycle in house.doors)
        bound = slow_bound(house, len(start.hands)) + 2 * house.rooms * longest * (longest + 1)
        self.assertLessEqual(sure, bound)
        self.assertEqual(sure % period_of(house), right_remainder(house, start, end))
        self.assertEqual(sure_count(house, start, end), sure)
        return sure

    def check_count(self, house, start, end, count):
        answer = exact_plan(house, start, end, count)
        self.assertIsInstance(answer, tuple)
        kind, run = answer
        self.assertEqual(kind, "run")
        self.assertIsInstance(run, Run)
        self.assertEqual(len(run), count)
        self.assertEqual(plain(slow_replay(house, start, run)), plain(end))

    def check_question(self, house, start, end, counts):
        """Check the given numbers of counts, from the sure count on, and some that have no run."""
        sure, period = self.check_sure(house, start, end), period_of(house)
        for more in counts:
            self.check_count(house, start, end, sure + more * period)
        remainder = sure % period
        for count in list(range(sure + 1, sure + period)) + list(range(remainder + 1, remainder + period)):
            self.assertEqual(exact_plan(house, start, end, count), ("clock", remainder))
        for count in {remainder, sure - period, remainder + sure // period // 2 * period}:
            if 0 <= count < sure:
                self.assertEqual(exact_plan(house, start, end, count), ("early", sure))

    def test_trees(self):
        for made in questions(340, 40, more_doors=0, hands=(2, 4)):
            self.check_question(*made, [0, 1, 2, 7])

    def test_two_hands_in_trees(self):
        for made in questions(341, 40, more_doors=0, hands=(2, 2), longest=8):
            self.check_question(*made, [0, 1, 5])

    def test_houses_with_rings(self):
        colourings = {True: 0, False: 0}
        for house, start, end in questions(342, 80, more_doors=3, hands=(3, 5)):
            colourings[colouring_of(house) is None] += 1
            self.check_question(house, start, end, [0, 1, 3])
        self.assertGreater(min(colourings.values()), 10)

    def test_every_count_up_to_400_more(self):
        for made in questions(343, 8, more_doors=2, hands=(3, 3), longest=6, most_rooms=3):
            period = period_of(made[0])
            self.check_question(*made, range(400 // period + 1))

    def test_lengths_that_cannot_be_paid_at_once(self):
        # The loops have 2 * 8 and 2 * 12 letters, and there are sums that they do not pay.
        house = House(3, [(0, 1, "RRRRRRRB"), (1, 2, "RBBBBBBBBBBB")])
        start = Standing([("R", 0), ("B", 1)], [0, 3])
        end = level(house, start, Standing([("R", 2), ("B", 2)], [5, 4]))
        self.check_question(house, start, end, range(50))
        # With a ring of an odd number of heavy doors, its letters have to be paid, too.
        start = Standing([("R", 0), ("B", 1), ("B", 1)], [0, 3, 4])
        for cycle, clock in (("RBBBBBBBBBBB", (8, [0, 0, 1])), ("RBBBBBBB", (4, None))):
            house = House(3, [(0, 1, "RRRRRRRB"), (1, 2, "RBBBBBBBBBBB"), (2, 0, cycle)])
            end = level(house, start, Standing([("R", 2), ("B", 2), ("B", 0)], [5, 4, 1]))
            self.assertEqual((period_of(house), colouring_of(house)), clock)
            self.check_question(house, start, end, range(50))

    def test_large_houses(self):
        rng = random.Random(344)
        tried = 0
        while tried < 4:
            house = odd_house(rng, 16, 9 * (tried % 2), longest=12)
            start = random_standing(rng, house, rng.choice([3, 40]))
            end = level(house, start, another_standing(rng, house, start))
            if slow_live(house, start) and slow_rooted(house, end):
                tried += 1
                self.check_question(house, start, end, [0, 400 // period_of(house)])

    def test_no_deeds_are_needed(self):
        start = Standing([("R", 1), ("B", 1), ("B", 2)], [1, 2, 1])
        sure = self.check_sure(RING, start, start)
        self.assertEqual(exact_plan(RING, start, start, 0), ("early", sure) if sure else ("run", Run([])))
        self.check_question(RING, start, start, [0, 1, 2])

    def test_unequal_ledgers(self):
        rng = random.Random(345)
        found = set()
        for house, start, end in questions(346, 80, hands=(3, 4)):
            places = [rng.randrange(len(cycle)) for _, _, cycle in house.doors]
            other = Standing(end.hands, places)
            unlike = [
                room for room in range(house.rooms)
                if slow_ledger(house, start, [room]) != slow_ledger(house, other, [room])
            ]
            if unlike and slow_rooted(house, other):
                found.add(unlike[0])
                self.assertIsNone(sure_count(house, start, other))
                for count in (0, 1, 2, 3, 399, 400):
                    self.assertEqual(exact_plan(house, start, other, count), ("room", unlike[0]))
        self.assertLessEqual({0, 1, 2}, found)


class Requirements(unittest.TestCase):

    def check(self, start, end, breakers, house=RING):
        def asked(asked_house, first, last):
            return exact_plan(asked_house, first, last, 7)

        parts = parts_of(house, start=start, end=end)
        for function in (sure_count, asked):
            check_requirements(self, function, ["start", "end"], parts, breakers)

    def test_order(self):
        def no_doors(parts):
            parts["rooms"], parts["doors"] = 1, []
            for name in ("start", "end"):
                parts[name][0] = [(trade, 0) for trade, _ in parts[name][0]]
                parts[name][1] = parts[name][1][3:]

        def dead(parts):
            # The lights keep the red in room 3 and the blues in room 0.
            parts["start"][0] = [("R", 3), ("B", 0), ("B", 0)]
            parts["start"][1] = [0, 0, 1]

        def not_rooted(parts):
            # So do the last lights.
            parts["end"][0] = [("R", 3), ("B", 0), ("B", 0)]
            parts["end"][1] = [1, 1, 0]

        def too_few(parts):
            parts["start"][0].pop(2)
            parts["end"][0].pop(2)

        hands = [("R", 1), ("B", 1), ("B", 2)]
        standing = Standing(hands, [0, 0, 0])
        for break_hands in (other_hands("start"), other_hands("end")):
            for break_trades in (other_trades, with_masters):
                self.check(standing, standing, [
                    (InvalidStanding, unfit("start")),
                    (InvalidStanding, unfit("end")),
                    (UnlikeHands, break_hands),
                    (WrongTrades, break_trades),
                    (NotOdd, not_odd),
                ], house=CHAIN)
        self.check(standing, standing, [(InvalidStanding, unfit("end")), (UnlikeHands, fewer_hands("end"))])
        self.check(standing, standing, [
            (InvalidStanding, unfit("start")),
            (InvalidStanding, unfit("end")),
            (WrongTrades, other_trades),
            (NotOdd, not_odd),
            (NotLive, dead),
            (NotRooted, not_rooted),
        ], house=CHAIN)
        self.check(standing, standing, [
            (UnlikeHands, other_hands("end")),
            (WrongTrades, other_trades),
            (NoDoors, no_doors),
        ])
        self.check(standing, standing, [
            (InvalidStanding, unfit("end")),
            (WrongTrades, with_masters),
            (NotOdd, not_odd),
            (TooFewHands, too_few),
        ])

    def test_no_door_comes_before_live_and_rooted(self):
        for hands in ([], [("R", 0)], [("R", 0), ("B", 0)], [("B", 0), ("B", 0), ("B", 0)]):
            standing = Standing(hands, [])
            with self.assertRaises(NoDoors):
                sure_count(House(1, []), standing, standing)
            with self.assertRaises(NoDoors):
                exact_plan(House(1, []), standing, standing, 0)

    def test_too_few_hands_comes_before_live_and_rooted(self):
        for hands in ([], [("R", 0)], [("R", 0), ("R", 0)]):
            standing = Standing(hands, [0, 0, 0])
            with self.assertRaises(TooFewHands):
                sure_count(RING, standing, standing)
            with self.assertRaises(NotLive):
                exact_plan(CHAIN, standing, standing, 0)


if __name__ == "__main__":
    unittest.main()
