"""Lessons and school plans: points 45 and 46, and point 17 for lanternhouse/school.py."""

import itertools
import random
import unittest

from lanternhouse.deeds import Run
from lanternhouse.errors import (
    InvalidStanding, NotLive, NotOdd, NotPossible, NotRooted, TooFewHands, UnknownPart, UnlikeHands, WrongTrades,
)
from lanternhouse.house import House
from lanternhouse.ledgers import ledgers_of
from lanternhouse.school import can_learn, learn, school_plan
from lanternhouse.standing import Standing

from broken import check_requirements, fewer_hands, not_odd, other_trades, parts_of, replaced, unfit
from support import (
    level, odd_house, odd_samples, plain, random_standing, samples, slow_bound, slow_ledger, slow_live, slow_replay,
    slow_rooted,
)

CHAIN = House(3, [(0, 1, "RB"), (1, 2, "RRRB")])
STANDING = Standing([("R", 0), ("R", 0), ("B", 0), ("B", 1), ("B", 1), ("R", 1), ("R", 2), ("B", 2)], [1, 2])
ONE_ROOM = House(1, [])


def slow_can_learn(standing, hand):
    """Look for another red and another blue as point 45 says."""
    rooms = [
        [room for other, (trade, room) in enumerate(standing.hands) if trade == wanted and other != hand]
        for wanted in "RB"
    ]
    return all(standing.hands[hand][1] in own for own in rooms)


def slow_lesson(standing, hand):
    assert slow_can_learn(standing, hand), hand
    hands = list(standing.hands)
    hands[hand] = ("B" if hands[hand][0] == "R" else "R", hands[hand][1])
    return Standing(hands, standing.places)


class Lessons(unittest.TestCase):

    def test_who_may_take_one(self):
        wanted = [True, True, False, True, True, False, False, False]
        self.assertEqual([can_learn(CHAIN, STANDING, hand) for hand in range(8)], wanted)

    def test_the_trades_are_exchanged(self):
        after = learn(CHAIN, STANDING, 1)
        self.assertEqual(after.hands, (("R", 0), ("B", 0)) + STANDING.hands[2:])
        self.assertEqual(after.places, (1, 2))
        after = learn(CHAIN, STANDING, 4)
        self.assertEqual(after.hands[4], ("R", 1))
        self.assertIsInstance(after, Standing)

    def test_not_possible(self):
        for hand in (2, 5, 6, 7):
            with self.assertRaises(NotPossible) as caught:
                learn(CHAIN, STANDING, hand)
            self.assertEqual((caught.exception.hand, caught.exception.door), (hand, None))

    def test_any_house_with_the_two_trades(self):
        # Neither a tree nor odd.
        house = House(2, [(0, 1, "RRB"), (1, 0, "RB")])
        standing = Standing([("R", 1), ("B", 1), ("B", 1)], [0, 0])
        self.assertIs(can_learn(house, standing, 1), True)
        self.assertEqual(learn(house, standing, 2).hands[2], ("R", 1))

    def test_against_point_45(self):
        found = {True: 0, False: 0}
        for house, standing in samples(170, 200, most_rooms=3, most_hands=6):
            for hand in range(len(standing.hands)):
                may = slow_can_learn(standing, hand)
                found[may] += 1
                self.assertIs(can_learn(house, standing, hand), may)
                if may:
                    after = learn(house, standing, hand)
                    self.assertEqual(plain(after), plain(slow_lesson(standing, hand)))
                    self.assertEqual(ledgers_of(house, after), ledgers_of(house, standing))
                else:
                    with self.assertRaises(NotPossible):
                        learn(house, standing, hand)
        self.assertTrue(min(found.values()) > 50)

    def test_requirements(self):
        def with_a_master(parts):
            parts["standing"][0].append(("*", 0))

        for hand in (0, 5):
            parts = parts_of(CHAIN, standing=STANDING, hand=hand)
            for unknown in (-1, 99, -8, 999999999, -999999999):
                for break_trades in (other_trades, with_a_master):
                    breakers = [
                        (InvalidStanding, unfit("standing")),
                        (UnknownPart, replaced("hand", unknown)),
                        (WrongTrades, break_trades),
                    ]
                    check_requirements(self, can_learn, ["standing", "hand"], parts, breakers)
                    if hand == 0:
                        breakers = breakers + [(NotPossible, replaced("hand", 5))]
                        breakers = breakers[:1] + breakers[2:]
                        check_requirements(self, learn, ["standing", "hand"], parts, breakers)
        for hand in (-1, 99):
            with self.assertRaises(UnknownPart):
                learn(CHAIN, STANDING, hand)
            with self.assertRaises(UnknownPart):
                learn(CHAIN, Standing([("*", 0)], [0, 0]), hand)


class SchoolPlans(unittest.TestCase):

    def check_plan(self, house, start, end):
        answer = school_plan(house, start, end)
        self.assertIsInstance(answer, tuple)
        found, room = answer
        self.assertIsNone(room)
        self.assertIsInstance(found, tuple)
        first, lessons, second = found
        self.assertTrue(isinstance(first, Run) and isinstance(lessons, list) and isinstance(second, Run))
        self.assertLessEqual(len(lessons), len(start.hands) + 1)
        self.assertLessEqual(len(first) + len(second), slow_bound(house, len(start.hands)))
        now = slow_replay(house, start, first)
        for hand in lessons:
            now = slow_lesson(now, hand)
        self.assertEqual(plain(slow_replay(house, now, second)), plain(end))
        return lessons

    def test_all_trades_in_one_room(self):
        for hands in (3, 4, 5):
            ways = [trades for trades in itertools.product("RB", repeat=hands) if len(set(trades)) == 2]
            for before in ways:
                for after in ways:
                    start, end = [Standing([(trade, 0) for trade in trades], []) for trades in (before, after)]
                    lessons = self.check_plan(ONE_ROOM, start, end)
                    if before == after:
                        self.assertEqual(lessons, [])

    def questions(self, seed, count, hands, more_doors, most_rooms=4, longest=6):
        rng = random.Random(seed)
        made = []
        while len(made) < count:
            house = odd_house(rng, rng.randint(1, most_rooms), rng.randint(0, more_doors), longest)
            many = rng.randint(*hands)
            start, end = random_standing(rng, house, many), random_standing(rng, house, many)
            if slow_live(house, start) and slow_rooted(house, end):
                made.append((house, start, end))
        return made

    def check_questions(self, questions):
        other_trades_only = 0
        for house, start, end in questions:
            rooms = [
                room for room in range(house.rooms)
                if slow_ledger(house, start, [room]) != slow_ledger(house, end, [room])
            ]
            if rooms:
                self.assertEqual(school_plan(house, start, end), (None, rooms[0]))
            even = level(house, start, end)
            if even is not None and slow_rooted(house, even):
                other_trades_only += all(old[0] != new[0] for old, new in zip(start.hands, even.hands))
                self.check_plan(house, start, even)
        return other_trades_only

    def test_trees(self):
        self.check_questions(self.questions(171, 120, (3, 6), 0))

    def test_houses_with_rings(self):
        self.check_questions(self.questions(172, 150, (3, 6), 3))

    def test_the_least_number_of_hands(self):
        only_other_trades = self.check_questions(self.questions(173, 300, (3, 3), 2))
        self.assertGreater(only_other_trades, 5)

    def test_large_houses(self):
        self.check_questions(self.questions(174, 2, (35, 40), 9, most_rooms=16, longest=12))

    def test_every_hand_has_the_other_trade_at_the_end(self):
        start = Standing([("R", 0), ("B", 0), ("R", 2), ("R", 1)], [0, 0])
        end = Standing([("B", 1), ("R", 1), ("B", 2), ("B", 0)], [0, 0])
        self.check_plan(CHAIN, start, level(CHAIN, start, end))

    def test_requirements(self):
        def too_few(parts):
            for name in ("start", "end"):
                parts[name][0].pop()

        def master_in(name):
            def with_a_master(parts):
                trade, room = parts[name][0][2]
                parts[name][0][2] = ("*", room)
            return with_a_master

        def dead(parts):
            parts["start"][0] = [("R", room) for _, room in parts["start"][0]]

        def not_rooted(parts):
            parts["end"][0] = [("B", room) for _, room in parts["end"][0]]

        start = Standing([("R", 0), ("B", 0), ("R", 1)], [0, 0])
        end = Standing([("B", 2), ("R", 2), ("B", 0)], [0, 0])
        parts = parts_of(CHAIN, start=start, end=end)
        for break_trades in (other_trades, master_in("start"), master_in("end")):
            for break_hands in (fewer_hands("start"), fewer_hands("end")):
                if break_trades is other_trades:
                    check_requirements(self, school_plan, ["start", "end"], parts, [
                        (InvalidStanding, unfit("start")),
                        (InvalidStanding, unfit("end")),
                        (UnlikeHands, break_hands),
                        (WrongTrades, break_trades),
                        (NotOdd, not_odd),
                        (NotLive, dead),
                        (NotRooted, not_rooted),
                    ])
                check_requirements(self, school_plan, ["start", "end"], parts, [
                    (InvalidStanding, unfit("start")),
                    (InvalidStanding, unfit("end")),
                    (WrongTrades, break_trades),
                    (NotOdd, not_odd),
                ])
        check_requirements(self, school_plan, ["start", "end"], parts, [
            (InvalidStanding, unfit("start")),
            (InvalidStanding, unfit("end")),
            (WrongTrades, other_trades),
            (NotOdd, not_odd),
            (TooFewHands, too_few),
            (NotLive, dead),
            (NotRooted, not_rooted),
        ])

    def test_two_hands_are_too_few_in_a_tree(self):
        for hands in ([], [("R", 0)], [("R", 0), ("B", 0)]):
            standing = Standing(hands, [0, 0])
            with self.assertRaises(TooFewHands):
                school_plan(CHAIN, standing, standing)

    def test_no_school_plan_for_dead_standings_with_both_trades(self):
        # The lights are B and R, the last lights R and B.
        apart = Standing([("R", 0), ("B", 2), ("B", 2)], [1, 0])
        together = Standing([("R", 1), ("B", 1), ("B", 1)], [0, 0])
        with self.assertRaises(NotLive):
            school_plan(CHAIN, apart, together)
        # The lights are R and B, the last lights B and R.
        with self.assertRaises(NotRooted):
            school_plan(CHAIN, together, Standing(apart.hands, [0, 3]))


if __name__ == "__main__":
    unittest.main()
