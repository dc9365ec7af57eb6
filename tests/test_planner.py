"""Plans and their pieces: points 43 and 44, point 22 on the way, and point 17 for lanternhouse/planner.py."""

import random
import unittest

from lanternhouse.deeds import Run, course
from lanternhouse.errors import (
    InvalidStanding, NotLive, NotOdd, NotRooted, TooFewHands, UnlikeHands, WrongTrades,
)
from lanternhouse.house import House
from lanternhouse.planner import pieces, plan, plan_bound
from lanternhouse.reach import is_live, safe_deeds
from lanternhouse.standing import Standing

from broken import check_requirements, fewer_hands, not_odd, other_hands, other_trades, parts_of, unfit, with_masters
from support import (
    another_standing, level, mixed, odd_house, odd_samples, plain, plans_to_make, random_standing, slow_bound,
    slow_ledger, slow_live, slow_reached, slow_replay, slow_rooted,
)

RING = House(3, [(0, 1, "RB"), (1, 2, "RRRB"), (2, 0, "BR")])
START = Standing([("R", 0), ("B", 2), ("B", 1)], [0, 3, 0])
CHAIN = House(4, [(0, 1, "RRRB"), (1, 2, "RBBB"), (2, 3, "RB")])
PLACES = [3, 0, 0]
ONE_ROOM = House(1, [])


def moved(before, after):
    """List the hands that stand elsewhere afterwards."""
    return [hand for hand, pair in enumerate(zip(before.hands, after.hands)) if pair[0] != pair[1]]


def turned(house, before, after):
    """Return a dict from the doors whose places differ to the differences."""
    return {
        door: (new - old) % len(house.doors[door][2])
        for door, (old, new) in enumerate(zip(before.places, after.places))
        if old != new
    }


class Bounds(unittest.TestCase):

    def test_numbers(self):
        # 2 * 3 * 2 * 17 + 4 * 3 * 3 * 9
        self.assertEqual(plan_bound(RING, 3), 204 + 324)
        self.assertEqual(plan_bound(RING, 0), 324)
        self.assertEqual(plan_bound(ONE_ROOM, 5), 0)

    def test_any_house(self):
        guilds = House(2, [(0, 1, "XYZXY")], trades="XYZ")
        self.assertEqual(plan_bound(guilds, 1), 2 * 21 + 4 * 2 * 11)

    def test_against_point_43(self):
        for house, standing in odd_samples(150, 60, most_rooms=8, more_doors=5, longest=12):
            for hands in (0, 1, 2, len(standing.hands), 40):
                self.assertEqual(plan_bound(house, hands), slow_bound(house, hands))


class Plans(unittest.TestCase):

    def check_plan(self, house, start, end):
        answer = plan(house, start, end)
        self.assertIsInstance(answer, tuple)
        run, room = answer
        self.assertIsNone(room)
        self.assertIsInstance(run, Run)
        self.assertLessEqual(len(run), slow_bound(house, len(start.hands)))
        self.assertEqual(plain(slow_replay(house, start, run)), plain(end))
        self.assertEqual(plan(house, start, end)[0].deeds, run.deeds)
        return run

    def test_trees(self):
        for house, start, end in plans_to_make(151, 120, more_doors=0):
            self.check_plan(house, start, end)

    def test_houses_with_rings(self):
        for house, start, end in plans_to_make(152, 120, hands=(3, 6), more_doors=3):
            self.check_plan(house, start, end)

    def test_two_hands_in_a_tree(self):
        for house, start, end in plans_to_make(153, 80, hands=(2, 2), more_doors=0, most_rooms=6):
            self.check_plan(house, start, end)

    def test_large_houses(self):
        rng = random.Random(154)
        for more_doors in (0, 9):
            house = odd_house(rng, 16, more_doors, longest=12)
            start = random_standing(rng, house, 40)
            end = level(house, start, another_standing(rng, house, start))
            self.assertTrue(slow_live(house, start) and slow_rooted(house, end))
            self.check_plan(house, start, end)

    def test_back_to_the_start(self):
        self.check_plan(CHAIN, Standing([("R", 1), ("B", 1)], PLACES), Standing([("R", 1), ("B", 1)], PLACES))

    def test_one_room(self):
        standing = Standing([("B", 0), ("R", 0)], [])
        self.assertEqual(len(self.check_plan(ONE_ROOM, standing, standing)), 0)

    def test_a_plan_exists_exactly_where_the_end_can_be_reached(self):
        both = {True: 0, False: 0}
        rng = random.Random(155)
        for house, start in odd_samples(156, 120, most_rooms=3, hands=(3, 3), more_doors=1, longest=2):
            if not slow_live(house, start):
                continue
            reached = slow_reached(house, start)
            for _ in range(8):
                end = another_standing(rng, house, start)
                if slow_rooted(house, end):
                    run, _ = plan(house, start, end)
                    both[run is not None] += 1
                    self.assertEqual(run is not None, plain(end) in reached)
        self.assertTrue(min(both.values()) > 30)

    def test_the_least_room_if_ledgers_differ(self):
        rng = random.Random(157)
        found = set()
        for house, start in odd_samples(158, 300, most_rooms=5, hands=(3, 5)):
            end = another_standing(rng, house, start)
            rooms = [
                room for room in range(house.rooms)
                if slow_ledger(house, start, [room]) != slow_ledger(house, end, [room])
            ]
            if rooms and slow_live(house, start) and slow_rooted(house, end):
                found.add(rooms[0])
                self.assertEqual(plan(house, start, end), (None, rooms[0]))
                self.assertIsNone(pieces(house, start, end))
        self.assertLessEqual({0, 1, 2}, found)

    def test_live_standings_on_the_way_have_safe_deeds(self):
        for house, start, end in plans_to_make(159, 25, most_rooms=4, hands=(2, 4)):
            for standing in course(house, start, plan(house, start, end)[0]):
                self.assertTrue(is_live(house, standing) or len(safe_deeds(house, standing)) == 0)
                if house.doors and is_live(house, standing):
                    self.assertNotEqual(safe_deeds(house, standing), [])


class Pieces(unittest.TestCase):

    def check_meeting(self, before, run, meeting):
        for trade in "RB":
            self.assertLessEqual(len({hand for hand, _ in run if before.hands[hand][0] == trade}), 1)
        doors = [door for _, door in run]
        self.assertEqual(len(doors), len(set(doors)))
        self.assertTrue(mixed(meeting))

    def check_travel(self, house, before, after):
        self.assertEqual(turned(house, before, after), {})
        hands = moved(before, after)
        self.assertEqual(sorted(before.hands[hand][0] for hand in hands), ["B", "R"])
        self.assertEqual(len({before.hands[hand][1] for hand in hands}), 1)
        self.assertEqual(len({after.hands[hand][1] for hand in hands}), 1)

    def check_carry(self, house, before, after):
        self.assertEqual(len(moved(before, after)), 1)
        (door, steps), = turned(house, before, after).items()
        self.assertEqual(steps % 2, 1)
        hand, = moved(before, after)
        self.assertEqual({before.hands[hand][1], after.hands[hand][1]}, set(house.doors[door][:2]))

    def check_turn(self, house, before, after):
        self.assertEqual(moved(before, after), [])
        (_, steps), = turned(house, before, after).items()
        self.assertEqual(steps % 2, 0)

    def check_pieces(self, house, start, end):
        """Check each piece against point 44, and return their names."""
        found = pieces(house, start, end)
        self.assertIsInstance(found, list)
        now, deeds = start, []
        for at, (name, run) in enumerate(found):
            self.assertIsInstance(found[at], tuple)
            self.assertIsInstance(run, Run)
            self.assertGreater(len(run), 0)
            deeds += list(run)
            before, now = now, slow_replay(house, now, run)
            if name == "meet":
                self.assertEqual(at, 0)
                self.check_meeting(before, run, now)
            elif name == "part":
                self.assertEqual(at, len(found) - 1)
                self.check_meeting(before, run, before)
            else:
                {"travel": self.check_travel, "carry": self.check_carry, "turn": self.check_turn}[name](house, before, now)
        self.assertEqual(tuple(deeds), plan(house, start, end)[0].deeds)
        return [name for name, _ in found]

    def test_trees(self):
        names = []
        for house, start, end in plans_to_make(160, 150, most_rooms=5, more_doors=0):
            names += self.check_pieces(house, start, end)
        self.assertEqual(set(names), {"meet", "travel", "carry", "turn", "part"})

    def test_houses_with_rings(self):
        names = []
        for house, start, end in plans_to_make(161, 120, hands=(3, 6), more_doors=3, longest=8):
            names += self.check_pieces(house, start, end)
        self.assertEqual(set(names), {"meet", "travel", "carry", "turn", "part"})

    def test_two_hands(self):
        for house, start, end in plans_to_make(162, 80, hands=(2, 2), more_doors=0, most_rooms=6, longest=8):
            self.assertNotIn("carry", self.check_pieces(house, start, end))

    def test_no_piece_is_empty(self):
        # The hands stand together already, and the places need not change.
        hands = [("R", 1), ("B", 1), ("R", 1)]
        standing = Standing(hands, PLACES)
        self.assertEqual(self.check_pieces(CHAIN, standing, standing), [])

    def test_an_empty_plan_has_no_pieces(self):
        standing = Standing([("B", 0), ("R", 0), ("R", 0)], [])
        self.assertEqual(pieces(ONE_ROOM, standing, standing), [])
        self.assertEqual(plan(ONE_ROOM, standing, standing)[0].deeds, ())

    def test_no_plan_no_pieces(self):
        self.assertIsNone(pieces(RING, START, Standing(START.hands, [1, 3, 0])))


class Requirements(unittest.TestCase):

    def check(self, start, end, breakers, house=RING):
        for function in (plan, pieces):
            check_requirements(self, function, ["start", "end"], parts_of(house, start=start, end=end), breakers)

    def test_house_and_hands(self):
        def too_few(parts):
            for name in ("start", "end"):
                parts[name][0].pop()

        for break_hands in (other_hands("start"), other_hands("end")):
            for break_trades in (other_trades, with_masters):
                self.check(START, START_AGAIN, [
                    (InvalidStanding, unfit("start")),
                    (InvalidStanding, unfit("end")),
                    (UnlikeHands, break_hands),
                    (WrongTrades, break_trades),
                    (NotOdd, not_odd),
                ])
        for break_hands in (fewer_hands("start"), fewer_hands("end")):
            self.check(START, START_AGAIN, [
                (InvalidStanding, unfit("start")),
                (InvalidStanding, unfit("end")),
                (UnlikeHands, break_hands),
                (WrongTrades, other_trades),
                (NotOdd, not_odd),
            ])
        self.check(START, START_AGAIN, [
            (InvalidStanding, unfit("start")),
            (InvalidStanding, unfit("end")),
            (WrongTrades, other_trades),
            (NotOdd, not_odd),
            (TooFewHands, too_few),
        ])

    def test_live_and_rooted(self):
        def dead(parts):
            # The lights keep the red in room 3 and the blues in room 0.
            parts["start"][0] = [("R", 3), ("B", 0), ("B", 0)]
            parts["start"][1] = [0, 0, 1]

        def not_rooted(parts):
            # So do the last lights.
            parts["end"][0] = [("R", 3), ("B", 0), ("B", 0)]
            parts["end"][1] = [1, 1, 0]

        hands = [("R", 1), ("B", 1), ("B", 2)]
        self.check(Standing(hands, [0, 0, 0]), Standing(hands, [0, 0, 0]), [
            (InvalidStanding, unfit("start")),
            (InvalidStanding, unfit("end")),
            (UnlikeHands, other_hands("start")),
            (WrongTrades, other_trades),
            (NotOdd, not_odd),
            (NotLive, dead),
            (NotRooted, not_rooted),
        ], house=CHAIN)

    def test_too_few_hands_comes_before_live_and_rooted(self):
        for hands in ([], [("R", 0)], [("R", 0), ("B", 2)], [("R", 0), ("R", 0)]):
            standing = Standing(hands, [0, 0, 0])
            for function in (plan, pieces):
                with self.assertRaises(TooFewHands):
                    function(RING, standing, standing)

    def test_two_hands_are_enough_in_a_tree(self):
        standing = Standing([("R", 0), ("B", 0)], [0, 0, 0])
        self.assertIsNotNone(plan(CHAIN, standing, standing)[0])
        with self.assertRaises(NotLive):
            plan(CHAIN, Standing([("R", 0)], [0, 0, 0]), Standing([("R", 0)], [0, 0, 0]))
        with self.assertRaises(NotLive):
            plan(ONE_ROOM, Standing([], []), Standing([], []))

    def test_live_counts_for_the_start_and_rooted_for_the_end(self):
        # The lights are R and B, the last lights B and R.
        house = House(3, [(0, 1, "RB"), (1, 2, "RB")])
        live = Standing([("R", 0), ("B", 2)], [0, 1])
        rooted = Standing([("R", 2), ("B", 0)], [0, 1])
        self.assertEqual(plain(slow_replay(house, live, plan(house, live, rooted)[0])), plain(rooted))
        for function in (plan, pieces):
            with self.assertRaises(NotRooted):
                function(house, live, live)
            with self.assertRaises(NotLive):
                function(house, rooted, rooted)
            with self.assertRaises(NotLive):
                function(house, rooted, live)


START_AGAIN = Standing(START.hands, [0, 1, 0])


if __name__ == "__main__":
    unittest.main()
