"""Closed walks and master plans: points 72 and 73, and point 17 for lanternhouse/masters.py."""

import random
import unittest

from lanternhouse.deeds import Run
from lanternhouse.errors import InvalidStanding, NoMaster, NotEven, UnknownPart, UnlikeHands
from lanternhouse.house import House
from lanternhouse.masters import closed_walk, master_bound, master_plan
from lanternhouse.standing import Standing

from broken import check_requirements, fewer_hands, other_hands, parts_of, unfit
from support import (
    another_standing, even_house, level, plain, random_house, random_standing, slow_ledger, slow_replay, slow_reached,
    some_trades,
)

ONE_ROOM = House(1, [], trades="XYZ")
# Two doors between the rooms 0 and 1, and a room behind each of these.
HOUSE = House(4, [(0, 1, "RB"), (1, 0, "RRB"), (1, 2, "RB"), (3, 0, "BR")])


def slow_can_close(house, room, passes):
    """Tell whether there is a closed walk, by the rule of point 72."""
    for own in range(house.rooms):
        if sum(number for (first, second, _), number in zip(house.doors, passes) if own in (first, second)) % 2:
            return False
    reached = {room}
    for _ in range(house.rooms):
        for (first, second, _), number in zip(house.doors, passes):
            if number > 0 and reached & {first, second}:
                reached |= {first, second}
    return all(number == 0 or first in reached for (first, _, _), number in zip(house.doors, passes))


class ClosedWalks(unittest.TestCase):

    def check_walk(self, house, room, passes):
        """Check the answer, and return whether there is a closed walk."""
        walk = closed_walk(house, room, passes)
        self.assertEqual(walk is not None, slow_can_close(house, room, passes))
        if walk is None:
            return False
        self.assertIsInstance(walk, list)
        self.assertEqual([walk.count(door) for door in range(len(house.doors))], list(passes))
        own = room
        for door in walk:
            first, second, _ = house.doors[door]
            self.assertIn(own, (first, second))
            own = second if own == first else first
        self.assertEqual(own, room)
        return True

    def test_by_hand(self):
        for passes, rooms in (
            ([0, 0, 0, 0], [0, 1, 2, 3]), ([1, 1, 0, 0], [0, 1]), ([2, 0, 0, 0], [0, 1]), ([1, 3, 2, 0], [0, 1, 2]),
            ([0, 0, 2, 2], []), ([0, 0, 2, 0], [1, 2]), ([1, 0, 0, 0], []), ([0, 0, 1, 1], []), ([1, 1, 1, 1], []),
            ([2, 2, 2, 2], [0, 1, 2, 3]), ([40, 40, 40, 40], [0, 1, 2, 3]), ([39, 39, 0, 40], [0, 1, 3]),
        ):
            for room in range(4):
                self.assertEqual(self.check_walk(HOUSE, room, passes), room in rooms)

    def test_nothing_to_pass(self):
        for room in range(4):
            self.assertEqual(closed_walk(HOUSE, room, [0, 0, 0, 0]), [])
        self.assertEqual(closed_walk(ONE_ROOM, 0, []), [])
        self.assertEqual(closed_walk(ONE_ROOM, 0, ()), [])

    def test_against_the_rule(self):
        rng = random.Random(440)
        found = {True: 0, False: 0}
        for _ in range(1500):
            house = random_house(rng, rng.randint(1, 6), rng.randint(0, 5))
            most = rng.choice([1, 2, 3, 40])
            passes = [rng.randint(0, most) for _ in house.doors]
            if rng.random() < 0.5:
                passes = [number // 2 * 2 for number in passes]
            found[self.check_walk(house, rng.randrange(house.rooms), passes)] += 1
        self.assertGreater(min(found.values()), 200)

    def test_rings(self):
        ring = House(3, [(0, 1, "RB"), (1, 2, "RB"), (2, 0, "RB")])
        for passes in ([1, 1, 1], [3, 1, 1], [2, 1, 1], [40, 40, 40], [39, 39, 39], [0, 2, 0], [5, 3, 7]):
            for room in range(3):
                self.check_walk(ring, room, passes)

    def test_forty_passes_of_many_doors(self):
        rng = random.Random(441)
        house = random_house(rng, 16, 9)
        for room in range(16):
            self.assertTrue(self.check_walk(house, room, [40] * 24))

    def test_requirements(self):
        for room in (-1, 4, 999999999, -999999999):
            with self.assertRaises(UnknownPart):
                closed_walk(HOUSE, room, [0, 0, 0, 0])


def slow_master_bound(house, hands):
    longest = max([len(cycle) for _, _, cycle in house.doors], default=0)
    return 2 * hands * (house.rooms - 1) * (longest + 2) + len(house.doors) * longest


class Bounds(unittest.TestCase):

    def test_numbers(self):
        # 2 * 5 * 3 * 5 + 4 * 3
        self.assertEqual(master_bound(HOUSE, 5), 150 + 12)
        self.assertEqual(master_bound(HOUSE, 0), 12)
        self.assertEqual(master_bound(ONE_ROOM, 9), 0)

    def test_any_house(self):
        rng = random.Random(442)
        for _ in range(60):
            house = random_house(rng, rng.randint(1, 8), rng.randint(0, 5), 12)
            for hands in (0, 1, 5, 40):
                self.assertEqual(master_bound(house, hands), slow_master_bound(house, hands))


class MasterPlans(unittest.TestCase):

    def check_plan(self, house, start, end):
        """Check the answer, and return whether there is a plan."""
        answer = master_plan(house, start, end)
        self.assertIsInstance(answer, tuple)
        unlike = [
            room for room in range(house.rooms)
            if slow_ledger(house, start, [room]) != slow_ledger(house, end, [room])
        ]
        if unlike:
            self.assertEqual(answer, (None, unlike[0]))
            return False
        run, room = answer
        self.assertIsNone(room)
        self.assertIsInstance(run, Run)
        self.assertLessEqual(len(run), slow_master_bound(house, len(start.hands)))
        self.assertEqual(plain(slow_replay(house, start, run)), plain(end))
        return True

    def questions(self, seed, count, most_rooms=5, more_doors=3, longest=8, hands=(1, 6), masters=1, trades=None):
        rng = random.Random(seed)
        made = []
        for _ in range(count):
            own = trades or some_trades(rng)
            rooms = rng.randint(1, most_rooms)
            house = even_house(rng, rooms, rng.randint(0, more_doors), longest, own)
            signs = ["*"] * masters + [rng.choice(own) for _ in range(rng.randint(*hands) - 1)]
            rng.shuffle(signs)
            start = random_standing(rng, house, 0)
            start = Standing([(sign, rng.randrange(rooms)) for sign in signs], start.places)
            made.append((house, start, another_standing(rng, house, start)))
        return made

    def check_questions(self, made):
        for house, start, end in made:
            self.assertTrue(self.check_plan(house, start, level(house, start, end)))

    def test_one_master(self):
        self.check_questions(self.questions(443, 250))

    def test_several_masters(self):
        self.check_questions(self.questions(444, 100, masters=3))
        self.check_questions(self.questions(445, 60, masters=4, hands=(1, 1)))

    def test_a_master_alone(self):
        self.check_questions(self.questions(446, 150, hands=(1, 1)))

    def test_two_trades(self):
        self.check_questions(self.questions(447, 100, trades="RB"))

    def test_trees(self):
        self.check_questions(self.questions(448, 100, most_rooms=7, more_doors=0))

    def test_unequal_ledgers(self):
        rooms = set()
        for house, start, end in self.questions(449, 200):
            if not self.check_plan(house, start, end):
                rooms.add(master_plan(house, start, end)[1])
        self.assertLessEqual({0, 1, 2}, rooms)

    def test_every_standing_that_can_be_reached(self):
        rng = random.Random(450)
        for _ in range(6):
            house = even_house(rng, 3, 1, 4, "XYZ")
            start = Standing([("*", 0), (rng.choice("XYZ"), 2)], [0, 1, 1])
            for _, hands, places in slow_reached(house, start):
                self.assertTrue(self.check_plan(house, start, Standing(hands, places)))

    def test_doors_far_from_the_room(self):
        # Only the places of the doors 2 and 3 differ, and all hands stand in room 0.
        house = House(4, [(0, 1, "RB"), (1, 2, "RRBB"), (2, 3, "RBRB"), (3, 2, "BR")])
        for hands in ([("*", 0)], [("*", 0), ("R", 0)], [("B", 0), ("*", 0), ("*", 0)]):
            start = Standing(hands, [0, 0, 0, 0])
            for places in ([0, 0, 1, 1], [0, 0, 2, 0], [0, 2, 3, 1], [0, 0, 0, 0]):
                self.assertTrue(self.check_plan(house, start, Standing(hands, places)))

    def test_large_houses(self):
        for made in self.questions(451, 3, most_rooms=16, more_doors=9, longest=12, hands=(40, 40)):
            self.check_questions([made])

    def test_requirements(self):
        def not_even(parts):
            parts["doors"][0][2] = "RRB"

        def no_master(parts):
            for name in ("start", "end"):
                parts[name][0] = [("R" if trade == "*" else trade, room) for trade, room in parts[name][0]]

        house = House(3, [(0, 1, "RB"), (2, 1, "RRRB"), (2, 0, "RRBB")])
        hands = [("R", 0), ("*", 1), ("B", 2)]
        parts = parts_of(house, start=Standing(hands, [0, 3, 1]), end=Standing(hands, [1, 2, 1]))
        for break_hands in (fewer_hands("start"), fewer_hands("end"), other_hands("start"), other_hands("end")):
            check_requirements(self, master_plan, ["start", "end"], parts, [
                (InvalidStanding, unfit("start")),
                (InvalidStanding, unfit("end")),
                (UnlikeHands, break_hands),
                (NotEven, not_even),
                (NoMaster, no_master),
            ])

        def other_master(parts):
            parts["end"][0] = [("*", 0), ("R", 1), ("B", 2)]

        check_requirements(self, master_plan, ["start", "end"], parts, [
            (UnlikeHands, other_master),
            (NotEven, not_even),
            (NoMaster, no_master),
        ])
        with self.assertRaises(NoMaster):
            master_plan(ONE_ROOM, Standing([], []), Standing([], []))


if __name__ == "__main__":
    unittest.main()
