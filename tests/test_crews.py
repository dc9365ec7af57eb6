"""Canonical standings and crew plans: points 69 to 71, and point 17 for lanternhouse/crews.py."""

import random
import unittest

from lanternhouse.crews import canonical_run, crew_bound, crew_plan, is_canonical
from lanternhouse.deeds import Run
from lanternhouse.errors import (
    InvalidStanding, NoCrew, NotOdd, TooFewHands, UnknownPart, UnlikeHands, WrongTrades,
)
from lanternhouse.house import House
from lanternhouse.standing import Standing

from broken import check_requirements, parts_of, replaced, unfit, with_masters
from support import odd_house, random_house, random_standing, slow_replay, slow_tree_doors, slow_wander, some_trades
from test_guilds import slow_crew, slow_trade_ledgers

ONE_ROOM = House(1, [], trades="XYZ")
# Door 2 is a ring door.
RING = House(3, [(0, 1, "YXZ"), (2, 1, "ZYXZZ"), (2, 0, "XYZ")], trades="XYZ")


def slow_crew_bound(house, hands):
    longest = max([len(cycle) for _, _, cycle in house.doors], default=0)
    return 2 * (house.rooms - 1) * (hands + 4) * longest * (house.rooms + 2 + len(house.doors) * longest)


def slow_canonical(house, standing, root):
    if any(standing.places[door] != 0 for door in slow_tree_doors(house)):
        return False
    for room in range(house.rooms):
        trades = [trade for trade, own in standing.hands if own == room]
        if room != root and (len(set(trades)) < len(trades) or house.trades[0] in trades):
            return False
    return True


def census(house, standing):
    return [sorted(trade for trade, own in standing.hands if own == room) for room in range(house.rooms)]


def ring_places(house, standing):
    tree = slow_tree_doors(house)
    return [place for door, place in enumerate(standing.places) if door not in tree]


def enough(house, more, rng):
    """List trades: enough hands of each trade, and some more."""
    least = 1 if house.rooms == 1 else house.rooms + 1
    trades = list(house.trades * least) + [rng.choice(house.trades) for _ in range(rng.randint(0, more))]
    rng.shuffle(trades)
    return trades


def with_crew(rng, house, trades):
    """Make a standing with these hands and a crew in some room."""
    room = rng.randrange(house.rooms)
    hands = [(trade, rng.randrange(house.rooms)) for trade in trades]
    for trade in house.trades:
        own = [hand for hand, other in enumerate(trades) if other == trade]
        hands[rng.choice(own)] = (trade, room)
    return Standing(hands, random_standing(rng, house, 0).places)


def questions(seed, count, most_rooms=4, more_doors=3, longest=9, more=4, trades=None):
    """Make pairs of an odd house and a standing with a crew and enough hands of each trade."""
    rng = random.Random(seed)
    made = []
    for _ in range(count):
        rooms = rng.randint(1, most_rooms)
        house = odd_house(rng, rooms, rng.randint(0, more_doors), longest, trades or some_trades(rng))
        made.append((house, with_crew(rng, house, enough(house, more, rng))))
    return made


class Bounds(unittest.TestCase):

    def test_numbers(self):
        # 2 * 2 * 16 * 5 * (5 + 3 * 5)
        self.assertEqual(crew_bound(RING, 12), 2 * 2 * 16 * 5 * 20)
        self.assertEqual(crew_bound(RING, 0), 2 * 2 * 4 * 5 * 20)
        self.assertEqual(crew_bound(ONE_ROOM, 7), 0)

    def test_any_house(self):
        rng = random.Random(420)
        for _ in range(60):
            house = random_house(rng, rng.randint(1, 8), rng.randint(0, 5), 12)
            for hands in (0, 1, 5, 40):
                self.assertEqual(crew_bound(house, hands), slow_crew_bound(house, hands))


class Canonical(unittest.TestCase):

    def check(self, hands, places, roots):
        standing = Standing(hands, places)
        self.assertEqual([is_canonical(RING, standing, room) for room in range(3)], [room in roots for room in range(3)])

    def test_by_hand(self):
        many = [("X", 1), ("X", 1), ("Y", 1), ("Y", 1), ("Z", 1), ("Z", 1)]
        self.check(many, [0, 0, 0], [1])
        self.check(many + [("Y", 0), ("Z", 0), ("Z", 2)], [0, 0, 0], [1])
        # The first trade elsewhere, and two hands of a trade elsewhere.
        self.check(many + [("X", 0)], [0, 0, 0], [])
        self.check(many + [("Z", 2), ("Z", 2)], [0, 0, 0], [])
        # The place of a ring door does not matter, those of tree doors do.
        self.check(many, [0, 0, 2], [1])
        self.check(many, [1, 0, 0], [])
        self.check(many, [0, 4, 0], [])

    def test_few_hands(self):
        self.check([], [0, 0, 1], [0, 1, 2])
        self.check([("Y", 0), ("Z", 0)], [0, 0, 1], [0, 1, 2])
        self.check([("Y", 0), ("Y", 0)], [0, 0, 1], [0])
        self.check([("X", 2)], [0, 0, 0], [2])
        self.assertIs(is_canonical(ONE_ROOM, Standing([("X", 0), ("X", 0)], []), 0), True)

    def test_against_point_69(self):
        rng = random.Random(421)
        found = {True: 0, False: 0}
        for _ in range(600):
            house = random_house(rng, rng.randint(1, 3), rng.randint(0, 2), 4, some_trades(rng)[:3])
            standing = random_standing(rng, house, rng.randint(0, 4))
            places = [place * rng.choice([0, 0, 1]) for place in standing.places]
            standing = Standing(standing.hands, places)
            for room in range(house.rooms):
                wanted = slow_canonical(house, standing, room)
                found[wanted] += 1
                self.assertIs(is_canonical(house, standing, room), wanted)
        self.assertGreater(min(found.values()), 100)


class CanonicalRuns(unittest.TestCase):

    def check_run(self, house, standing, root):
        run = canonical_run(house, standing, root)
        self.assertIsInstance(run, Run)
        self.assertLessEqual(len(run), slow_crew_bound(house, len(standing.hands)))
        end = slow_replay(house, standing, run)
        self.assertTrue(slow_canonical(house, end, root))
        self.assertEqual(ring_places(house, end), ring_places(house, standing))
        self.assertLessEqual(set(house.trades), {trade for trade, own in end.hands if own == root})
        return end

    def test_every_root(self):
        for house, standing in questions(422, 60):
            for root in range(house.rooms):
                self.check_run(house, standing, root)

    def test_trees_and_just_enough_hands(self):
        for house, standing in questions(423, 60, most_rooms=6, more_doors=0, more=0):
            self.check_run(house, standing, house.rooms - 1)

    def test_the_largest_houses(self):
        rng = random.Random(424)
        for trades in ("RB", "XYZ", "ABCDE"):
            house = odd_house(rng, 6, 3, 9, trades)
            for more in (0, 10):
                self.check_run(house, with_crew(rng, house, enough(house, more, rng)), 5)

    def test_one_room(self):
        standing = Standing([("Z", 0), ("X", 0), ("Y", 0)], [])
        self.assertEqual(canonical_run(ONE_ROOM, standing, 0).deeds, ())

    def test_the_census_depends_on_hands_ledgers_and_ring_doors_only(self):
        rng = random.Random(425)
        compared = 0
        for house, standing in questions(426, 60, more_doors=2):
            root = rng.randrange(house.rooms)
            wanted = census(house, self.check_run(house, standing, root))
            for _ in range(3):
                other = slow_wander(rng, house, standing, 30)
                if slow_crew(house, other) and ring_places(house, other) == ring_places(house, standing):
                    # Hands of one trade change places, too.
                    order = list(range(len(other.hands)))
                    rng.shuffle(order)
                    other = Standing([other.hands[hand] for hand in order], other.places)
                    compared += other.places != standing.places
                    self.assertEqual(census(house, self.check_run(house, other, root)), wanted)
        self.assertGreater(compared, 20)

    def test_canonical_already(self):
        for house, standing in questions(427, 20):
            end = self.check_run(house, standing, 0)
            again = self.check_run(house, end, 0)
            self.assertEqual(census(house, again), census(house, end))


class CrewPlans(unittest.TestCase):

    def check_plan(self, house, start, end):
        """Check the answer, and return whether there is a crew plan."""
        answer = crew_plan(house, start, end)
        self.assertIsInstance(answer, tuple)
        pairs = zip(slow_trade_ledgers(house, start), slow_trade_ledgers(house, end))
        unlike = [room for room, (first, second) in enumerate(pairs) if first != second]
        if unlike:
            self.assertEqual(answer, (None, unlike[0]))
            return False
        run, room = answer
        self.assertIsNone(room)
        self.assertIsInstance(run, Run)
        self.assertLessEqual(len(run), slow_crew_bound(house, len(start.hands)))
        reached = slow_replay(house, start, run)
        self.assertEqual(census(house, reached), census(house, end))
        self.assertEqual(reached.places, end.places)
        return True

    def alike(self, rng, house, start):
        """Find a standing with a crew, other hands of each trade, and the same trade ledgers."""
        while True:
            end = slow_wander(rng, house, start, rng.randint(0, 60))
            order = list(range(len(end.hands)))
            rng.shuffle(order)
            end = Standing([end.hands[hand] for hand in order], end.places)
            if slow_crew(house, end):
                return end

    def check_questions(self, seed, made):
        rng = random.Random(seed)
        for house, start in made:
            self.assertTrue(self.check_plan(house, start, self.alike(rng, house, start)))

    def test_houses_with_rings(self):
        self.check_questions(428, questions(429, 80))

    def test_two_trades(self):
        self.check_questions(430, questions(431, 60, trades="RB"))

    def test_trees(self):
        self.check_questions(432, questions(433, 50, most_rooms=5, more_doors=0))

    def test_several_doors_between_two_rooms(self):
        rng = random.Random(434)
        for _ in range(20):
            trades = some_trades(rng)
            house = odd_house(rng, 2, 4, 9, trades)
            start = with_crew(rng, house, enough(house, 3, rng))
            self.assertTrue(self.check_plan(house, start, self.alike(rng, house, start)))

    def test_the_largest_houses(self):
        rng = random.Random(435)
        for trades in ("RB", "XYZ", "ABCDE"):
            house = odd_house(rng, 6, 3, 9, trades)
            start = with_crew(rng, house, enough(house, 3, rng))
            self.assertTrue(self.check_plan(house, start, self.alike(rng, house, start)))

    def test_the_least_room(self):
        rng = random.Random(436)
        found = set()
        for house, start in questions(437, 150):
            trades = [trade for trade, _ in start.hands]
            rng.shuffle(trades)
            end = with_crew(rng, house, trades)
            if not self.check_plan(house, start, end):
                found.add(crew_plan(house, start, end)[1])
        self.assertLessEqual({0, 1, 2}, found)

    def test_one_room(self):
        start = Standing([("Z", 0), ("X", 0), ("Y", 0), ("X", 0)], [])
        end = Standing([("X", 0), ("X", 0), ("Y", 0), ("Z", 0)], [])
        self.assertEqual(crew_plan(ONE_ROOM, start, end)[0].deeds, ())

    def test_nothing_to_do(self):
        for house, start in questions(438, 20):
            self.assertTrue(self.check_plan(house, start, start))


def not_odd(parts):
    parts["doors"][1][2] = "XXYZ"


HANDS = [("X", 1), ("Y", 1), ("Z", 1)] + [(trade, room) for trade in "XYZ" for room in (0, 0, 2)]


class Requirements(unittest.TestCase):

    def one_less(self, trade):
        def too_few(parts):
            for name in ("standing", "start", "end"):
                if name in parts:
                    hands = parts[name][0]
                    hands.remove(next(hand for hand in hands if hand[0] == trade))
        return too_few

    def no_crew_in(self, name):
        def no_crew(parts):
            parts[name][0] = [(trade, 0 if trade == "X" else 1) for trade, _ in parts[name][0]]
        return no_crew

    def test_is_canonical(self):
        parts = parts_of(RING, standing=Standing(HANDS, [0, 1, 2]), room=1)
        for room in (-1, 3, 999999999):
            check_requirements(self, is_canonical, ["standing", "room"], parts, [
                (InvalidStanding, unfit("standing")),
                (UnknownPart, replaced("room", room)),
                (WrongTrades, with_masters),
            ])

    def test_canonical_run(self):
        parts = parts_of(RING, standing=Standing(HANDS, [0, 1, 2]), room=1)
        for trade in "XYZ":
            for room in (-1, 3, 999999999):
                check_requirements(self, canonical_run, ["standing", "room"], parts, [
                    (InvalidStanding, unfit("standing")),
                    (UnknownPart, replaced("room", room)),
                    (WrongTrades, with_masters),
                    (NotOdd, not_odd),
                    (TooFewHands, self.one_less(trade)),
                    (NoCrew, self.no_crew_in("standing")),
                ])

    def test_crew_plan(self):
        def more(name):
            def more_hands(parts):
                parts[name][0].append(("Y", 0))
            return more_hands

        def other_trade(parts):
            # One hand X less and one hand Y more.
            hands = parts["end"][0]
            hands[hands.index(("X", 0))] = ("Y", 0)

        def one_master(parts):
            parts["start"][0].append(("*", 0))

        end = Standing(HANDS[::-1], [1, 3, 0])
        parts = parts_of(RING, start=Standing(HANDS, [0, 1, 2]), end=end)
        for unlike in (more("start"), more("end"), other_trade, one_master):
            for trade in "XYZ":
                check_requirements(self, crew_plan, ["start", "end"], parts, [
                    (InvalidStanding, unfit("start")),
                    (InvalidStanding, unfit("end")),
                    (UnlikeHands, unlike),
                    (NotOdd, not_odd),
                    (TooFewHands, self.one_less(trade)),
                ])
                for name in ("start", "end"):
                    check_requirements(self, crew_plan, ["start", "end"], parts, [
                        (InvalidStanding, unfit("start")),
                        (InvalidStanding, unfit("end")),
                        (WrongTrades, with_masters),
                        (NotOdd, not_odd),
                        (TooFewHands, self.one_less(trade)),
                        (NoCrew, self.no_crew_in(name)),
                    ])
        check_requirements(self, crew_plan, ["start", "end"], parts, [
            (UnlikeHands, more("end")),
            (WrongTrades, with_masters),
            (NoCrew, self.no_crew_in("end")),
        ])

    def test_n_and_n_plus_one_hands(self):
        for hands, error in ((HANDS, None), (HANDS[:-1], TooFewHands), (HANDS[1:], TooFewHands)):
            standing = Standing(hands, [0, 1, 2])
            for call in (lambda: canonical_run(RING, standing, 0), lambda: crew_plan(RING, standing, standing)):
                if error is None:
                    call()
                else:
                    self.assertRaises(error, call)

    def test_one_hand_is_enough_in_one_room(self):
        canonical_run(ONE_ROOM, Standing([("X", 0), ("Y", 0), ("Z", 0)], []), 0)
        for hands in ([], [("X", 0), ("Y", 0)], [("Y", 0), ("Z", 0), ("Z", 0)]):
            standing = Standing(hands, [])
            with self.assertRaises(TooFewHands):
                canonical_run(ONE_ROOM, standing, 0)
            with self.assertRaises(TooFewHands):
                crew_plan(ONE_ROOM, standing, standing)


if __name__ == "__main__":
    unittest.main()
