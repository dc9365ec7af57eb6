"""Two hands in a strict tree: point 64, and point 17 for lanternhouse/twohands.py."""

import random
import unittest

from lanternhouse.deeds import Run
from lanternhouse.errors import (
    InvalidStanding, NoPair, NotRooted, NotStrict, NotTree, UnlikeHands, WrongTrades,
)
from lanternhouse.house import House
from lanternhouse.standing import Standing
from lanternhouse.twohands import two_hands_run

from broken import check_requirements, fewer_hands, no_tree, other_hands, other_trades, parts_of, unfit, with_masters
from support import (
    every_standing, level, odd_house, plain, random_standing, slow_common_rooms, slow_last_lights, slow_ledger,
    slow_reached, slow_replay, slow_rooted, slow_way,
)

CHAIN = House(3, [(0, 1, "RB"), (1, 2, "RB")])


def slow_unlike(house, start, end):
    return [
        room for room in range(house.rooms)
        if slow_ledger(house, start, [room]) != slow_ledger(house, end, [room])
    ]


def starts(house, trades="RB"):
    """Make all standings with two hands in one room."""
    return [standing for standing in every_standing(house, trades) if len({room for _, room in standing.hands}) == 1]


class TwoHands(unittest.TestCase):

    def check_run(self, house, start, end):
        answer = two_hands_run(house, start, end)
        self.assertIsInstance(answer, tuple)
        unlike = slow_unlike(house, start, end)
        if unlike:
            self.assertEqual(answer, (None, unlike[0]))
            return None
        run, room = answer
        self.assertIsNone(room)
        self.assertIsInstance(run, Run)
        self.assertEqual(plain(slow_replay(house, start, run)), plain(end))
        roots = slow_common_rooms(house, end, slow_last_lights(house, end))
        self.assertEqual(len(roots), 1)
        root = roots.pop()
        rooms = dict(end.hands)
        wanted = 2 * len(slow_way(house, start.hands[0][1], root))
        wanted += sum(len(slow_way(house, root, rooms[trade])) for trade in "RB")
        self.assertEqual(len(run), wanted)
        return len(run)

    def test_against_a_search(self):
        rng = random.Random(330)
        found = {True: 0, False: 0}
        for trades in ("RB", "BR"):
            for _ in range(3):
                house = odd_house(rng, 4, 0, longest=2)
                start = rng.choice(starts(house, trades))
                steps = slow_reached(house, start)
                for end in every_standing(house, trades):
                    if slow_rooted(house, end):
                        many = self.check_run(house, start, end)
                        found[many is None] += 1
                        self.assertEqual(many, steps.get(plain(end)))
        self.assertGreater(min(found.values()), 50)

    def test_every_start_in_a_chain(self):
        for start in starts(CHAIN):
            for end in every_standing(CHAIN, "RB"):
                if slow_rooted(CHAIN, end):
                    self.check_run(CHAIN, start, end)

    def test_large_trees(self):
        rng = random.Random(331)
        reached = 0
        while reached < 60:
            house = odd_house(rng, rng.randint(5, 16), 0, longest=2)
            room = rng.randrange(house.rooms)
            trades = rng.choice(["RB", "BR"])
            start = Standing([(trade, room) for trade in trades], random_standing(rng, house, 0).places)
            ends = [(trade, rng.randrange(house.rooms)) for trade in trades]
            end = level(house, start, Standing(ends, start.places))
            if slow_rooted(house, end):
                reached += self.check_run(house, start, end) is not None

    def test_one_room(self):
        for trades in ("RB", "BR"):
            standing = Standing([(trade, 0) for trade in trades], [])
            self.assertEqual(self.check_run(House(1, []), standing, standing), 0)

    def test_by_hand(self):
        # The end has the root room 1: the red went to room 0 and the blue to room 2.
        start, end = Standing([("R", 2), ("B", 2)], [0, 1]), Standing([("R", 0), ("B", 2)], [1, 0])
        self.assertEqual(self.check_run(CHAIN, start, end), 2 + 1 + 1)
        self.assertEqual(two_hands_run(CHAIN, start, Standing(end.hands, [1, 1])), (None, 1))
        self.assertEqual(two_hands_run(CHAIN, Standing(start.hands, [1, 1]), end), (None, 0))

    def test_requirements(self):
        def not_strict(parts):
            parts["doors"][0][2] = "RBRBRB"

        def not_rooted(parts):
            # The last lights keep the two apart.
            parts["end"][0] = [("R", 0), ("B", 2)]
            parts["end"][1] = [0, 1]

        def apart(parts):
            parts["start"][0] = [("R", 0), ("B", 1)]

        def third_hand(parts):
            parts["start"][0].append(("R", 1))
            parts["end"][0].append(("R", 1))

        def two_reds(parts):
            for name in ("start", "end"):
                parts[name][0] = [("R", room) for _, room in parts[name][0]]

        def no_hands(parts):
            parts["start"][0], parts["end"][0] = [], []

        start, end = Standing([("R", 1), ("B", 1)], [0, 0]), Standing([("R", 1), ("B", 1)], [0, 0])
        parts = parts_of(CHAIN, start=start, end=end)
        for break_trades in (other_trades, with_masters):
            for break_hands in (other_hands("start"), other_hands("end"), fewer_hands("end"), fewer_hands("start")):
                if break_trades is with_masters and "fewer" in break_hands.__name__:
                    continue
                check_requirements(self, two_hands_run, ["start", "end"], parts, [
                    (InvalidStanding, unfit("start")),
                    (InvalidStanding, unfit("end")),
                    (UnlikeHands, break_hands),
                    (WrongTrades, break_trades),
                    (NotTree, no_tree),
                    (NotStrict, not_strict),
                ])
        for no_pair in (apart, third_hand, two_reds, no_hands):
            check_requirements(self, two_hands_run, ["start", "end"], parts, [
                (InvalidStanding, unfit("start")),
                (InvalidStanding, unfit("end")),
                (WrongTrades, other_trades),
                (NotTree, no_tree),
                (NotStrict, not_strict),
                (NoPair, no_pair),
            ])
        check_requirements(self, two_hands_run, ["start", "end"], parts, [
            (InvalidStanding, unfit("start")),
            (WrongTrades, other_trades),
            (NotTree, no_tree),
            (NotStrict, not_strict),
            (NoPair, apart),
            (NotRooted, not_rooted),
        ])


if __name__ == "__main__":
    unittest.main()
