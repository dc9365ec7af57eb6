"""Gathering and settling: points 41 and 42, and point 17 for lanternhouse/gathering.py."""

import random
import unittest

from lanternhouse.deeds import Run
from lanternhouse.errors import (
    InvalidStanding, NoPair, NotLive, NotOdd, NotTogether, TooFewHands, UnknownPart, UnlikeHands, WrongTrades,
)
from lanternhouse.gathering import gather, settle
from lanternhouse.house import House
from lanternhouse.standing import Standing

from broken import check_requirements, fewer_hands, not_odd, other_hands, other_trades, parts_of, replaced, unfit
from broken import with_masters
from support import (
    level, odd_house, odd_samples, random_standing, slow_ledger, slow_live, slow_replay, slow_turned,
)

HOUSE = House(3, [(0, 1, "RB"), (1, 2, "RRRB"), (2, 0, "BR")])
LIVE = Standing([("R", 0), ("B", 2), ("B", 1)], [0, 3, 0])


def slow_gather_bound(house, hands):
    longest = max([len(cycle) for _, _, cycle in house.doors], default=0)
    return hands * (house.rooms - 1) * (4 * longest + 1)


def slow_settle_bound(house):
    longest = max([len(cycle) for _, _, cycle in house.doors], default=0)
    return 4 * len(house.doors) * house.rooms * (2 * longest + 1)


class Gathering(unittest.TestCase):

    def check_gather(self, house, standing, room):
        run = gather(house, standing, room)
        self.assertIsInstance(run, Run)
        self.assertLessEqual(len(run), slow_gather_bound(house, len(standing.hands)))
        end = slow_replay(house, standing, run)
        self.assertEqual(end.hands, tuple((trade, room) for trade, _ in standing.hands))
        return run

    def test_every_room(self):
        for room in range(3):
            self.check_gather(HOUSE, LIVE, room)

    def test_one_room(self):
        self.assertEqual(len(self.check_gather(House(1, []), Standing([("R", 0), ("B", 0)], []), 0)), 0)

    def test_houses_with_and_without_rings(self):
        tried = 0
        for house, standing in odd_samples(140, 250, most_rooms=6, hands=(2, 6), more_doors=3, longest=8):
            if slow_live(house, standing):
                tried += 1
                for room in range(house.rooms):
                    self.check_gather(house, standing, room)
        self.assertGreater(tried, 80)

    def test_turned_back(self):
        for house, standing in odd_samples(141, 100, most_rooms=5, hands=(2, 5)):
            turned, back = slow_turned(house, standing)
            if slow_live(turned, back):
                self.check_gather(turned, back, house.rooms - 1)

    def test_many_hands_and_rooms(self):
        rng = random.Random(142)
        for more_doors in (0, 9):
            house = odd_house(rng, 16, more_doors, longest=12)
            standing = random_standing(rng, house, 40)
            self.assertTrue(slow_live(house, standing))
            self.check_gather(house, standing, 15)
            self.check_gather(house, standing, 0)

    def test_requirements(self):
        def dead(parts):
            parts["standing"][0] = [("R", 0)]

        parts = parts_of(HOUSE, standing=LIVE, room=1)
        for room in (-1, 3, -3, 999999999):
            for break_trades in (other_trades, with_masters):
                check_requirements(self, gather, ["standing", "room"], parts, [
                    (InvalidStanding, unfit("standing")),
                    (UnknownPart, replaced("room", room)),
                    (WrongTrades, break_trades),
                    (NotOdd, not_odd),
                ])
        check_requirements(self, gather, ["standing", "room"], parts, [
            (InvalidStanding, unfit("standing")),
            (UnknownPart, replaced("room", 3)),
            (WrongTrades, other_trades),
            (NotOdd, not_odd),
            (NotLive, dead),
        ])

    def test_dead_standings(self):
        chain = House(3, [(0, 1, "RB"), (1, 2, "RB")])
        for hands in ([], [("B", 1)], [("R", 1), ("R", 2)], [("R", 0), ("B", 2)]):
            for room in range(3):
                with self.assertRaises(NotLive):
                    gather(chain, Standing(hands, [1, 0]), room)


class Settling(unittest.TestCase):

    def check_settle(self, house, start, end):
        answer = settle(house, start, end)
        self.assertIsInstance(answer, tuple)
        run, room = answer
        self.assertIsNone(room)
        self.assertIsInstance(run, Run)
        self.assertLessEqual(len(run), slow_settle_bound(house))
        reached = slow_replay(house, start, run)
        self.assertEqual((reached.hands, reached.places), (end.hands, end.places))

    def standings(self, rng, house, hands):
        room = rng.randrange(house.rooms)
        trades = ["R", "B"] + [rng.choice("RB") for _ in range(hands - 2)]
        rng.shuffle(trades)
        hands = [(trade, room) for trade in trades]
        return [Standing(hands, random_standing(rng, house, 0).places) for _ in range(2)]

    def check_houses(self, seed, count, hands, more_doors, **sizes):
        rng = random.Random(seed)
        settled = 0
        for _ in range(count):
            house = odd_house(rng, rng.randint(1, sizes.get("rooms", 5)), rng.randint(0, more_doors), sizes.get("longest", 6))
            start, end = self.standings(rng, house, rng.randint(*hands))
            unlike = [
                room for room in range(house.rooms)
                if slow_ledger(house, start, [room]) != slow_ledger(house, end, [room])
            ]
            if unlike:
                self.assertEqual(settle(house, start, end), (None, unlike[0]))
            alike = level(house, start, end)
            settled += alike is not None and alike.places != start.places
            if alike is not None:
                self.check_settle(house, start, alike)
        self.assertGreater(settled, count // 3)

    def test_trees_with_two_hands(self):
        self.check_houses(143, 150, (2, 2), 0)

    def test_trees_with_more_hands(self):
        self.check_houses(144, 100, (3, 6), 0)

    def test_houses_with_rings(self):
        self.check_houses(145, 250, (3, 5), 4)

    def test_large_houses(self):
        self.check_houses(146, 6, (3, 40), 9, rooms=16, longest=12)

    def test_only_ring_doors_by_odd_numbers(self):
        # The doors of a ring turn by an odd number each; only a third hand can do this.
        hands = [("R", 1), ("B", 1), ("B", 1)]
        self.check_settle(HOUSE, Standing(hands, [0, 0, 0]), Standing(hands, [1, 3, 1]))
        self.check_settle(HOUSE, Standing(hands, [1, 2, 1]), Standing(hands, [0, 1, 0]))

    def test_two_doors_between_two_rooms(self):
        house = House(2, [(0, 1, "RB"), (1, 0, "RBBB")])
        for room in (0, 1):
            for third in "RB":
                hands = [("R", room), ("B", room), (third, room)]
                for place in range(4):
                    for other in range(2):
                        start = Standing(hands, [0, 0])
                        end = Standing(hands, [other, place])
                        if (place + other) % 2 == 0:
                            self.check_settle(house, start, end)
                        else:
                            self.assertEqual(settle(house, start, end), (None, 0))

    def test_the_least_room(self):
        hands = [("R", 1), ("B", 1), ("B", 1)]
        start = Standing(hands, [0, 0, 0])
        self.assertEqual(settle(HOUSE, start, Standing(hands, [0, 1, 0])), (None, 1))
        self.assertEqual(settle(HOUSE, start, Standing(hands, [0, 1, 1])), (None, 0))
        self.assertEqual(settle(HOUSE, start, Standing(hands, [0, 2, 1])), (None, 0))

    def test_nothing_to_do(self):
        hands = [("R", 1), ("B", 1), ("B", 1)]
        self.check_settle(HOUSE, Standing(hands, [1, 2, 1]), Standing(hands, [1, 2, 1]))
        one = Standing([("B", 0), ("R", 0)], [])
        self.check_settle(House(1, []), one, one)

    def test_requirements(self):
        def too_few(parts):
            parts["start"][0].pop(1)
            parts["end"][0].pop(1)

        def no_pair(parts):
            for name in ("start", "end"):
                parts[name][0] = [("B", room) for _, room in parts[name][0]]

        def apart(name, hand, room):
            def hand_apart(parts):
                hand_of = parts[name][0]
                hand_of[hand] = (hand_of[hand][0], room)
            return hand_apart

        def other_room(parts):
            parts["end"][0] = [(trade, 2) for trade, _ in parts["end"][0]]

        hands = [("R", 1), ("B", 1), ("B", 1)]
        parts = parts_of(HOUSE, start=Standing(hands, [0, 3, 0]), end=Standing(hands, [0, 1, 0]))
        for break_trades in (other_trades, with_masters):
            for break_together in (apart("start", 0, 0), apart("end", 0, 2), other_room):
                check_requirements(self, settle, ["start", "end"], parts, [
                    (InvalidStanding, unfit("start")),
                    (InvalidStanding, unfit("end")),
                    (UnlikeHands, other_hands("end")),
                    (WrongTrades, break_trades),
                    (NotOdd, not_odd),
                    (NoPair, no_pair),
                    (NotTogether, break_together),
                ])
        for break_hands in (fewer_hands("start"), fewer_hands("end"), other_hands("start")):
            check_requirements(self, settle, ["start", "end"], parts, [
                (InvalidStanding, unfit("start")),
                (UnlikeHands, break_hands),
                (WrongTrades, other_trades),
                (NotOdd, not_odd),
                (TooFewHands, too_few),
                (NotTogether, other_room),
            ])

    def test_too_few_hands_comes_before_no_pair(self):
        for hands in ([], [("R", 1)], [("R", 1), ("R", 1)], [("B", 0), ("B", 1)]):
            with self.assertRaises(TooFewHands):
                settle(HOUSE, Standing(hands, [0, 0, 0]), Standing(hands, [0, 0, 0]))

    def test_no_pair_in_a_tree(self):
        tree = House(2, [(0, 1, "RB")])
        for hands in ([], [("R", 1)], [("B", 1), ("B", 1)], [("R", 0), ("R", 1)]):
            with self.assertRaises(NoPair):
                settle(tree, Standing(hands, [0]), Standing(hands, [0]))


if __name__ == "__main__":
    unittest.main()
