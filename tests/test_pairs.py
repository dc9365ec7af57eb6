"""The pair: points 38 to 40, and point 17 for lanternhouse/pairs.py."""

import random
import unittest

from lanternhouse.deeds import Run
from lanternhouse.errors import BadSteps, InvalidStanding, NoPair, NotOdd, NotThere, UnknownPart, WrongTrades
from lanternhouse.house import House
from lanternhouse.pairs import carry, even_turn, pair_travel, pair_walk
from lanternhouse.standing import Standing

from broken import check_requirements, not_odd, other_trades, parts_of, replaced, unfit, with_masters
from support import odd_house, random_standing, slow_replay, slow_way

# Door 3 is a ring door.
HOUSE = House(4, [(0, 1, "RRRB"), (2, 1, "BRBBRR"), (2, 3, "RB"), (3, 0, "RBBB")])
STANDING = Standing([("B", 1), ("R", 1), ("R", 2), ("B", 3), ("B", 1), ("R", 1)], [2, 4, 1, 3])
PAIR = (1, 0)
UNKNOWN_HANDS = (-1, 66, -6, 999999999)
UNKNOWN_DOORS = (-1, 4, -4, -999999999)


def some_pairs(seed, count):
    """Make houses and standings with a pair, which is two of several hands in its room."""
    rng = random.Random(seed)
    made = []
    while len(made) < count:
        house = odd_house(rng, rng.randint(2, 6), rng.randint(0, 3), longest=12)
        standing = random_standing(rng, house, 6)
        pairs = [
            (red, blue)
            for red, (trade, room) in enumerate(standing.hands)
            for blue, other in enumerate(standing.hands)
            if trade == "R" and other == ("B", room)
        ]
        if pairs:
            made.append((rng, house, standing, rng.choice(pairs)))
    return made


def doors_of_room(house, room):
    return [door for door, ends in enumerate(house.doors) if room in ends[:2]]


def far(house, door, room):
    first, second, _ = house.doors[door]
    return second if room == first else first


class Walks(unittest.TestCase):

    def test_each_letter_is_taken_by_its_hand(self):
        # Door 1 has the letters BRBBRR, and the place 4: R, R, B, R, B, B.
        run = pair_walk(HOUSE, STANDING, PAIR, 1)
        self.assertIsInstance(run, Run)
        self.assertEqual(run.deeds, ((1, 1), (1, 1), (0, 1), (1, 1), (0, 1), (0, 1)))
        self.assertEqual(pair_walk(HOUSE, STANDING, (5, 4), 0).deeds, ((5, 0), (4, 0), (5, 0), (5, 0)))

    def test_only_the_two_have_moved(self):
        for rng, house, standing, pair in some_pairs(130, 150):
            room = standing.hands[pair[0]][1]
            for door in doors_of_room(house, room):
                end = slow_replay(house, standing, pair_walk(house, standing, pair, door))
                hands = list(standing.hands)
                for hand in pair:
                    hands[hand] = (hands[hand][0], far(house, door, room))
                self.assertEqual((end.hands, end.places), (tuple(hands), standing.places))
                self.assertEqual(len(pair_walk(house, standing, pair, door)), len(house.doors[door][2]))

    def test_the_pair_may_be_a_list(self):
        self.assertEqual(pair_walk(HOUSE, STANDING, [1, 0], 1).deeds, pair_walk(HOUSE, STANDING, (1, 0), 1).deeds)

    def test_requirements(self):
        parts = parts_of(HOUSE, standing=STANDING, pair=PAIR, door=1)
        for unknown in [replaced("pair", pair) for pair in ((1, 66), (-1, 0), (999999999, -5))] + [
            replaced("door", door) for door in UNKNOWN_DOORS
        ]:
            for no_pair in [replaced("pair", pair) for pair in ((0, 1), (2, 0), (1, 3), (1, 5), (4, 0), (1, 1))]:
                check_requirements(self, pair_walk, ["standing", "pair", "door"], parts, [
                    (InvalidStanding, unfit("standing")),
                    (UnknownPart, unknown),
                    (WrongTrades, other_trades),
                    (NotOdd, not_odd),
                    (NoPair, no_pair),
                ])
        for door in (2, 3):
            check_requirements(self, pair_walk, ["standing", "pair", "door"], parts, [
                (InvalidStanding, unfit("standing")),
                (UnknownPart, replaced("pair", (1, 77))),
                (WrongTrades, with_masters),
                (NotOdd, not_odd),
                (NoPair, replaced("pair", (0, 1))),
                (NotThere, replaced("door", door)),
            ])


class Travels(unittest.TestCase):

    def test_walks_along_the_way(self):
        self.assertEqual(pair_travel(HOUSE, STANDING, PAIR, 3).deeds, (
            (1, 1), (1, 1), (0, 1), (1, 1), (0, 1), (0, 1), (0, 2), (1, 2),
        ))

    def test_no_ring_door_is_used(self):
        standing = Standing([("R", 0), ("B", 0)], [0, 0, 0, 0])
        self.assertEqual(
            [door for _, door in pair_travel(HOUSE, standing, (0, 1), 3)], [0] * 4 + [1] * 6 + [2] * 2,
        )

    def test_to_the_room_of_the_pair(self):
        run = pair_travel(HOUSE, STANDING, PAIR, 1)
        self.assertIsInstance(run, Run)
        self.assertEqual(run.deeds, ())
        self.assertEqual(pair_travel(House(1, []), Standing([("R", 0), ("B", 0)], []), (0, 1), 0).deeds, ())

    def test_is_the_walks_one_after_the_other(self):
        for rng, house, standing, pair in some_pairs(131, 100):
            own = standing.hands[pair[0]][1]
            for room in range(house.rooms):
                run = pair_travel(house, standing, pair, room)
                deeds, now = [], standing
                for door in slow_way(house, own, room):
                    walk = pair_walk(house, now, pair, door)
                    deeds += list(walk)
                    now = slow_replay(house, now, walk)
                self.assertEqual(list(run), deeds)
                hands = [(trade, room if hand in pair else at) for hand, (trade, at) in enumerate(standing.hands)]
                self.assertEqual((now.hands, now.places), (tuple(hands), standing.places))

    def test_requirements(self):
        parts = parts_of(HOUSE, standing=STANDING, pair=PAIR, room=3)
        for unknown in [replaced("pair", (hand, 0)) for hand in UNKNOWN_HANDS] + [
            replaced("room", room) for room in UNKNOWN_DOORS
        ]:
            for no_pair in [replaced("pair", pair) for pair in ((0, 1), (2, 0), (1, 3), (4, 5))]:
                check_requirements(self, pair_travel, ["standing", "pair", "room"], parts, [
                    (InvalidStanding, unfit("standing")),
                    (UnknownPart, unknown),
                    (WrongTrades, other_trades),
                    (NotOdd, not_odd),
                    (NoPair, no_pair),
                ])
        with self.assertRaises(WrongTrades):
            pair_travel(HOUSE, Standing(STANDING.hands + (("*", 0),), STANDING.places), PAIR, 3)


class EvenTurns(unittest.TestCase):

    def check_turn(self, house, standing, pair, door, steps):
        run = even_turn(house, standing, pair, door, steps)
        length = len(house.doors[door][2])
        self.assertLessEqual(len(run), steps + length)
        self.assertLessEqual(set(run), {(hand, door) for hand in pair})
        places = list(standing.places)
        places[door] = (places[door] + steps) % length
        end = slow_replay(house, standing, run)
        self.assertEqual((end.hands, end.places), (standing.hands, tuple(places)))
        return run

    def test_no_steps(self):
        self.assertIsInstance(even_turn(HOUSE, STANDING, PAIR, 1, 0), Run)
        for rng, house, standing, pair in some_pairs(132, 20):
            for door in doors_of_room(house, standing.hands[pair[0]][1]):
                self.check_turn(house, standing, pair, door, 0)

    def test_two_letters_of_one_trade(self):
        # The letters are R and R, so the red goes there and back.
        self.assertEqual(even_turn(HOUSE, STANDING, PAIR, 1, 2).deeds, ((1, 1), (1, 1)))

    def test_a_whole_cycle_more(self):
        # The letters are R and B: each of the two would be on the other side.
        run = self.check_turn(HOUSE, STANDING, PAIR, 0, 2)
        self.assertEqual(run.deeds, ((1, 0), (0, 0), (1, 0), (1, 0), (1, 0), (0, 0)))

    def test_all_steps(self):
        for rng, house, standing, pair in some_pairs(133, 25):
            for door in doors_of_room(house, standing.hands[pair[0]][1]):
                for steps in [*range(0, 28, 2), 48, 50, 98, 100]:
                    self.check_turn(house, standing, pair, door, steps)

    def test_every_place_of_a_cycle(self):
        house = House(2, [(1, 0, "RBBRRRRBRBBR")])
        for place in range(12):
            for steps in range(0, 102, 2):
                self.check_turn(house, Standing([("R", 0), ("B", 0)], [place]), (0, 1), 0, steps)

    def test_requirements(self):
        names = ["standing", "pair", "door", "steps"]
        parts = parts_of(HOUSE, standing=STANDING, pair=PAIR, door=1, steps=4)
        for steps in (1, 3, 99, -1, -2, -100, 999999999, -999999999):
            check_requirements(self, even_turn, names, parts, [
                (InvalidStanding, unfit("standing")),
                (UnknownPart, replaced("pair", (-5, 0))),
                (WrongTrades, with_masters),
                (NotOdd, not_odd),
                (NoPair, replaced("pair", (0, 1))),
                (NotThere, replaced("door", 2)),
                (BadSteps, replaced("steps", steps)),
            ])
        for door in UNKNOWN_DOORS:
            check_requirements(self, even_turn, names, parts, [
                (InvalidStanding, unfit("standing")),
                (UnknownPart, replaced("door", door)),
                (WrongTrades, other_trades),
                (NotOdd, not_odd),
                (NoPair, replaced("pair", (1, 3))),
                (BadSteps, replaced("steps", 3)),
            ])


class Carries(unittest.TestCase):

    def check_carry(self, house, standing, pair, hand, door, steps):
        run = carry(house, standing, pair, hand, door, steps=steps)
        length = len(house.doors[door][2])
        self.assertLessEqual(len(run), steps + 2 * length)
        self.assertLessEqual(set(run), {(mover, door) for mover in (*pair, hand)})
        hands, places = list(standing.hands), list(standing.places)
        hands[hand] = (hands[hand][0], far(house, door, hands[hand][1]))
        places[door] = (places[door] + steps) % length
        end = slow_replay(house, standing, run)
        self.assertEqual((end.hands, end.places), (tuple(hands), tuple(places)))
        return run

    def test_one_step_is_the_default(self):
        run = carry(HOUSE, STANDING, PAIR, 5, 1)
        self.assertIsInstance(run, Run)
        self.assertEqual(run.deeds, carry(HOUSE, STANDING, PAIR, 5, 1, steps=1).deeds)
        self.assertEqual(run.deeds, ((5, 1),))
        end = slow_replay(HOUSE, STANDING, carry(HOUSE, STANDING, PAIR, 4, 0))
        self.assertEqual((end.hands[4], end.places), (("B", 0), (3, 4, 1, 3)))

    def test_a_hand_of_the_other_trade(self):
        # The letter is R, so a whole cycle is needed for the blue.
        self.check_carry(HOUSE, STANDING, PAIR, 4, 1, 1)
        self.assertGreater(len(carry(HOUSE, STANDING, PAIR, 4, 1)), 1)

    def test_from_the_other_end(self):
        # The red 2 stands in room 2, the pair in room 1.
        end = slow_replay(HOUSE, STANDING, self.check_carry(HOUSE, STANDING, PAIR, 2, 1, 3))
        self.assertEqual(end.hands[2], ("R", 1))

    def test_all_steps_from_either_end(self):
        own_end = other_end = 0
        for rng, house, standing, pair in some_pairs(134, 60):
            room = standing.hands[pair[0]][1]
            for door in doors_of_room(house, room):
                for hand, (_, at) in enumerate(standing.hands):
                    if hand not in pair and at in house.doors[door][:2]:
                        own_end += at == room
                        other_end += at != room
                        for steps in (1, 3, 5, 7, 9, 11, 13, 25, 97, 99):
                            self.check_carry(house, standing, pair, hand, door, steps)
        self.assertTrue(own_end > 20 and other_end > 20)

    def test_every_place_of_a_cycle(self):
        house = House(2, [(1, 0, "RBBRRRRBRBBR")])
        for place in range(12):
            for trade, room in (("R", 0), ("R", 1), ("B", 0), ("B", 1)):
                standing = Standing([(trade, room), ("R", 0), ("B", 0)], [place])
                for steps in range(1, 101, 2):
                    self.check_carry(house, standing, (1, 2), 0, 0, steps)

    def test_requirements(self):
        names = ["standing", "pair", "hand", "door", "*steps"]
        parts = parts_of(HOUSE, standing=STANDING, pair=PAIR, hand=4, door=1, steps=3)
        not_there = [replaced("hand", hand) for hand in (0, 1, 3)]
        not_there += [replaced("door", door) for door in (2, 3)]
        for there in not_there:
            for steps in (0, 2, -1, -2, -3, 100, 999999998, -999999999):
                check_requirements(self, carry, names, parts, [
                    (InvalidStanding, unfit("standing")),
                    (UnknownPart, replaced("pair", (1, 66))),
                    (WrongTrades, with_masters),
                    (NotOdd, not_odd),
                    (NoPair, replaced("pair", (0, 1))),
                    (NotThere, there),
                    (BadSteps, replaced("steps", steps)),
                ])
        unknown = [replaced("hand", hand) for hand in UNKNOWN_HANDS]
        unknown += [replaced("door", door) for door in UNKNOWN_DOORS]
        for break_known in unknown:
            check_requirements(self, carry, names, parts, [
                (InvalidStanding, unfit("standing")),
                (UnknownPart, break_known),
                (WrongTrades, other_trades),
                (NotOdd, not_odd),
                (NoPair, replaced("pair", (4, 1))),
                (BadSteps, replaced("steps", 0)),
            ])

    def test_where_the_hand_has_to_stand(self):
        # Hand 2 stands in room 2: door 0 joins the rooms 0 and 1, door 2 the rooms 2 and 3.
        for hand, door in ((2, 0), (2, 2), (3, 1), (3, 2), (0, 1), (1, 1), (4, 3)):
            with self.assertRaises(NotThere):
                carry(HOUSE, STANDING, PAIR, hand, door)


if __name__ == "__main__":
    unittest.main()
