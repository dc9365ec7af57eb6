"""The chase: point 65, and point 17 for lanternhouse/chase.py."""

import random
import unittest

from lanternhouse.chase import chase_door, chased_pair, is_forced
from lanternhouse.errors import (
    InvalidStanding, NoPair, NotSwift, NotThere, NotTree, UnknownPart, WrongTrades,
)
from lanternhouse.house import House
from lanternhouse.standing import Standing

from broken import check_requirements, no_tree, other_trades, parts_of, replaced, unfit, with_masters
from support import (
    every_standing, mixed, plain, random_standing, slow_deeds, slow_do, slow_lights, slow_spread, slow_way, swift_house,
)

CHAIN = House(4, [(0, 1, "RB"), (2, 1, "RRB"), (2, 3, "RB")])


def moves(house, standing, trade):
    """List the standings after the possible deeds of the trade."""
    return [
        slow_do(house, standing, hand, door)
        for hand, door in slow_deeds(house, standing)
        if standing.hands[hand][0] == trade
    ]


def slow_forced(house, trades):
    """Play all games: return the plain standings in which the captain of the reds, to move, can force a meeting."""
    standings = every_standing(house, trades)
    won = {plain(standing) for standing in standings if mixed(standing)}
    # For each deed of a red, what the captain of the blues can leave.
    games = {
        plain(standing): [
            [plain(left) for left in [after] + moves(house, after, "B")] if not mixed(after) else []
            for after in moves(house, standing, "R")
        ]
        for standing in standings
    }
    while True:
        more = {
            standing for standing, deeds in games.items()
            if standing not in won and any(all(left in won for left in lefts) for lefts in deeds)
        }
        if not more:
            return won
        won |= more


def slow_chased(house, standing):
    """Look at all pairs of a red and a blue."""
    lights = slow_lights(house, standing)
    found = []
    for red, (trade, room) in enumerate(standing.hands):
        for blue, (other, behind) in enumerate(standing.hands):
            if trade == "R" and other == "B":
                way = slow_way(house, room, behind)
                if all(lights[door] == "R" for door in way):
                    found.append((len(way), red, blue))
    return min(found)[1:] if found else None


def samples_of_trees(seed, count, most_rooms=6, most_hands=5, longest=5):
    rng = random.Random(seed)
    made = []
    for _ in range(count):
        house = swift_house(rng, rng.randint(1, most_rooms), longest)
        made.append((house, random_standing(rng, house, rng.randint(0, most_hands))))
    return made


class Forced(unittest.TestCase):

    def test_against_all_games(self):
        rng = random.Random(400)
        found = {True: 0, False: 0}
        for rooms, longest, trades in ((2, 5, "RB"), (3, 4, "RB"), (3, 3, "RBB"), (3, 3, "BRR"), (4, 3, "RB"), (4, 2, "RBB")):
            for _ in range(3):
                house = swift_house(rng, rooms, longest)
                won = slow_forced(house, trades)
                for standing in every_standing(house, trades):
                    forced = plain(standing) in won
                    found[forced] += 1
                    self.assertIs(is_forced(house, standing), forced)
                    self.assertEqual(chased_pair(house, standing) is not None, forced)
        self.assertGreater(min(found.values()), 200)

    def test_a_blue_in_the_spread_of_the_reds(self):
        for house, standing in samples_of_trees(401, 300):
            spread = slow_spread(house, standing, slow_lights(house, standing), "R")
            forced = any(trade == "B" and room in spread for trade, room in standing.hands)
            self.assertIs(is_forced(house, standing), forced)

    def test_not_without_a_red_or_a_blue(self):
        for hands in ([], [("R", 0), ("R", 1)], [("B", 0), ("B", 1)]):
            standing = Standing(hands, [0, 0, 0])
            self.assertIs(is_forced(CHAIN, standing), False)
            self.assertIsNone(chased_pair(CHAIN, standing))


class ChasedPairs(unittest.TestCase):

    def test_against_all_pairs(self):
        several = 0
        for house, standing in samples_of_trees(402, 400, most_hands=7):
            wanted = slow_chased(house, standing)
            self.assertEqual(chased_pair(house, standing), wanted)
            several += wanted is not None and len(standing.hands) > 4
        self.assertGreater(several, 50)

    def test_in_one_room(self):
        standing = Standing([("R", 0), ("B", 1), ("B", 3), ("R", 3), ("B", 3)], [0, 0, 0])
        self.assertEqual(chased_pair(CHAIN, standing), (3, 2))

    def test_several_nearest_pairs(self):
        # The lights of all doors are R.
        standing = Standing([("B", 1), ("B", 0), ("R", 2), ("R", 1), ("B", 2)], [0, 0, 0])
        self.assertEqual(chased_pair(CHAIN, standing), (2, 4))
        standing = Standing([("B", 0), ("B", 2), ("R", 3), ("R", 1), ("B", 2)], [0, 0, 0])
        self.assertEqual(chased_pair(CHAIN, standing), (2, 1))
        standing = Standing([("B", 3), ("B", 0), ("R", 1), ("B", 2)], [0, 0, 0])
        self.assertEqual(chased_pair(CHAIN, standing), (2, 1))

    def test_a_light_in_between(self):
        standing = Standing([("R", 0), ("B", 2), ("R", 3)], [0, 2, 1])
        self.assertIsNone(chased_pair(CHAIN, standing))
        self.assertEqual(chased_pair(CHAIN, Standing(standing.hands, [0, 1, 1])), (0, 1))
        self.assertEqual(chased_pair(CHAIN, Standing(standing.hands, [0, 2, 0])), (2, 1))

    def test_the_chase(self):
        """Whatever the blues do, the chase ends with a meeting after at most n - 1 deeds of reds."""
        rng = random.Random(403)
        chases = 0

        def chase(house, standing, pair, left):
            nonlocal chases
            if mixed(standing):
                return
            self.assertGreater(left, 0)
            door = chase_door(house, standing, pair)
            self.assertIn((pair[0], door), slow_deeds(house, standing))
            chases += 1
            after = slow_do(house, standing, pair[0], door)
            if not mixed(after):
                for answer in [after] + moves(house, after, "B"):
                    chase(house, answer, pair, left - 1)

        for _ in range(1200):
            house = swift_house(rng, rng.randint(3, 6), 4)
            standing = random_standing(rng, house, rng.randint(2, 3))
            pair = chased_pair(house, standing)
            if pair is not None:
                chase(house, standing, pair, house.rooms - 1)
        self.assertGreater(chases, 100)


class ChaseDoors(unittest.TestCase):

    def test_from_both_sides(self):
        standing = Standing([("R", 0), ("B", 3), ("R", 3), ("B", 0), ("B", 1), ("R", 2)], [0, 0, 0])
        doors = {(0, 1): 0, (2, 3): 2, (0, 4): 0, (5, 4): 1, (5, 1): 2, (5, 3): 1, (2, 4): 2}
        for pair, door in doors.items():
            self.assertEqual(chase_door(CHAIN, standing, pair), door)
            self.assertEqual(chase_door(CHAIN, standing, list(pair)), door)

    def test_against_the_way(self):
        tried = 0
        for house, standing in samples_of_trees(404, 200):
            lights = slow_lights(house, standing)
            for red, (trade, room) in enumerate(standing.hands):
                for blue, (other, behind) in enumerate(standing.hands):
                    if trade == "R" and other == "B":
                        way = slow_way(house, room, behind)
                        if way and all(lights[door] == "R" for door in way):
                            tried += 1
                            self.assertEqual(chase_door(house, standing, (red, blue)), way[0])
                        else:
                            with self.assertRaises(NotThere):
                                chase_door(house, standing, (red, blue))
        self.assertGreater(tried, 50)

    def test_not_there(self):
        standing = Standing([("R", 0), ("B", 0), ("B", 3)], [0, 0, 0])
        with self.assertRaises(NotThere):
            chase_door(CHAIN, standing, (0, 1))
        self.assertEqual(chase_door(CHAIN, standing, (0, 2)), 0)
        for places in ([1, 0, 0], [0, 2, 0], [0, 0, 1]):
            with self.assertRaises(NotThere):
                chase_door(CHAIN, Standing(standing.hands, places), (0, 2))


class Requirements(unittest.TestCase):

    def not_swift(self, cycle):
        def with_two_blues(parts):
            parts["doors"][1][2] = cycle
        return with_two_blues

    def test_order(self):
        parts = parts_of(CHAIN, standing=Standing([("R", 0), ("B", 2), ("B", 0), ("R", 3)], [0, 0, 0]))
        for function in (is_forced, chased_pair):
            for break_trades in (other_trades, with_masters):
                for cycle in ("RRBB", "BRRB", "RBBR", "BBBR"):
                    check_requirements(self, function, ["standing"], parts, [
                        (InvalidStanding, unfit("standing")),
                        (WrongTrades, break_trades),
                        (NotTree, no_tree),
                        (NotSwift, self.not_swift(cycle)),
                    ])

    def test_order_for_the_door(self):
        def cut_off(parts):
            parts["standing"][1][0] = 1

        parts = parts_of(CHAIN, standing=Standing([("R", 0), ("B", 2), ("B", 0), ("R", 3)], [0, 0, 0]), pair=(0, 1))
        for unknown in ((0, 4), (-1, 1), (9, 9), (0, -3), (999999999, 1)):
            for break_trades in (other_trades, with_masters):
                if unknown == (0, 4) and break_trades is with_masters:
                    continue
                check_requirements(self, chase_door, ["standing", "pair"], parts, [
                    (InvalidStanding, unfit("standing")),
                    (UnknownPart, replaced("pair", unknown)),
                    (WrongTrades, break_trades),
                    (NotTree, no_tree),
                    (NotSwift, self.not_swift("RRBB")),
                    (NotThere, cut_off),
                ])
        for wrong in ((1, 0), (0, 3), (1, 2), (0, 0), (1, 1)):
            check_requirements(self, chase_door, ["standing", "pair"], parts, [
                (InvalidStanding, unfit("standing")),
                (WrongTrades, other_trades),
                (NotTree, no_tree),
                (NotSwift, self.not_swift("RRBB")),
                (NoPair, replaced("pair", wrong)),
                (NotThere, cut_off),
            ])
        check_requirements(self, chase_door, ["standing", "pair"], parts, [
            (NotSwift, self.not_swift("RRBB")),
            (NotThere, replaced("pair", (0, 2))),
        ])


if __name__ == "__main__":
    unittest.main()
