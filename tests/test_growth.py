"""Growth: points 74 to 76, and point 17 for lanternhouse/growth.py."""

import random
import unittest

from lanternhouse.errors import InvalidHouse, InvalidStanding, NotDead, UnknownPart, WrongTrades
from lanternhouse.growth import joined, quickening_doors, with_door, with_hand, with_room
from lanternhouse.house import House
from lanternhouse.standing import Standing

from broken import check_requirements, other_trades, parts_of, replaced, unfit, with_masters
from support import parted_trades, plain, random_cycle, random_house, random_standing, samples, slow_live, some_trades

HOUSE = House(3, [(0, 1, "RB"), (2, 1, "RRB")])
STANDING = Standing([("R", 0), ("B", 2), ("*", 1)], [1, 2])
GUILDS = House(2, [(0, 1, "XYZ")], trades="XYZ")
WORKING = Standing([("Y", 1), ("*", 0)], [2])
ONE_ROOM = House(1, [])
EMPTY = Standing([], [])

# Cycles that no house with the trades RB has.
NO_CYCLES = ["", "R", "BBB", "RBX", "rb", "R B", "RB*", "RB\n"]


class Growing(unittest.TestCase):

    def check(self, answer, rooms, doors, hands, places, trades="RB"):
        self.assertIsInstance(answer, tuple)
        house, standing = answer
        self.assertEqual(plain(house), ("house", rooms, tuple(doors), trades))
        self.assertEqual(plain(standing), ("standing", tuple(hands), tuple(places)))

    def test_a_new_door(self):
        doors, hands = HOUSE.doors, STANDING.hands
        self.check(with_door(HOUSE, STANDING, 2, 0, "BRR"), 3, doors + ((2, 0, "BRR"),), hands, [1, 2, 0])
        self.check(with_door(HOUSE, STANDING, 0, 1, "RB", place=1), 3, doors + ((0, 1, "RB"),), hands, [1, 2, 1])
        for place in range(3):
            answer = with_door(GUILDS, WORKING, 1, 0, "ZXY", place=place)
            self.check(answer, 2, GUILDS.doors + ((1, 0, "ZXY"),), WORKING.hands, [2, place], "XYZ")

    def test_a_new_room(self):
        doors, hands = HOUSE.doors, STANDING.hands
        for room in range(3):
            answer = with_room(HOUSE, STANDING, room, "BRR", place=2)
            self.check(answer, 4, doors + ((room, 3, "BRR"),), hands, [1, 2, 2])
        self.check(with_room(ONE_ROOM, EMPTY, 0, "RB"), 2, [(0, 1, "RB")], [], [0])
        self.check(with_room(GUILDS, WORKING, 1, "ZXY"), 3, GUILDS.doors + ((1, 2, "ZXY"),), WORKING.hands, [2, 0], "XYZ")

    def test_a_new_hand(self):
        for trade in "RB*":
            for room in range(3):
                standing = with_hand(HOUSE, STANDING, trade, room)
                self.assertEqual(plain(standing), ("standing", STANDING.hands + ((trade, room),), (1, 2)))
        self.assertEqual(with_hand(GUILDS, WORKING, "Z", 0).hands, (("Y", 1), ("*", 0), ("Z", 0)))
        self.assertEqual(with_hand(ONE_ROOM, EMPTY, "B", 0).hands, (("B", 0),))

    def test_no_upper_limits(self):
        house, standing = ONE_ROOM, EMPTY
        for number in range(30):
            house, standing = with_room(house, standing, number // 2, "RB" * 20, place=number)
            house, standing = with_door(house, standing, number + 1, number // 2, "RB", place=1)
        for _ in range(60):
            standing = with_hand(house, standing, "R", 30)
        self.assertEqual((house.rooms, len(house.doors), len(standing.hands)), (31, 60, 60))
        self.assertEqual(standing.places[58:], (29, 1))

    def test_a_live_standing_stays_live(self):
        rng = random.Random(460)
        live = 0
        for house, standing in samples(461, 300):
            if slow_live(house, standing):
                live += 1
                cycle = random_cycle(rng, 5)
                place, room = rng.randrange(len(cycle)), rng.randrange(house.rooms)
                self.assertTrue(slow_live(*with_room(house, standing, room, cycle, place=place)))
                self.assertTrue(slow_live(house, with_hand(house, standing, rng.choice("RB"), room)))
                if house.rooms > 1:
                    first, second = rng.sample(range(house.rooms), 2)
                    self.assertTrue(slow_live(*with_door(house, standing, first, second, cycle, place=place)))
        self.assertGreater(live, 100)


class WrongDoors(unittest.TestCase):

    def check(self, error, door, call, *arguments, **keywords):
        with self.assertRaises(error) as caught:
            call(*arguments, **keywords)
        if error is InvalidHouse:
            self.assertEqual(caught.exception.door, door)

    def test_wrong_ends(self):
        for room in range(3):
            self.check(InvalidHouse, 2, with_door, HOUSE, STANDING, room, room, "RB")

    def test_wrong_cycles(self):
        for cycle in NO_CYCLES:
            self.check(InvalidHouse, 2, with_door, HOUSE, STANDING, 0, 1, cycle)
            self.check(InvalidHouse, 2, with_room, HOUSE, STANDING, 0, cycle)
            self.check(InvalidHouse, 0, with_room, ONE_ROOM, EMPTY, 0, cycle)
            self.check(InvalidHouse, 2, joined, HOUSE, STANDING, ONE_ROOM, EMPTY, 0, 0, cycle)
            self.check(InvalidHouse, 4, joined, HOUSE, STANDING, HOUSE, STANDING, 0, 0, cycle)
        self.check(InvalidHouse, 1, with_room, GUILDS, WORKING, 0, "XY")

    def test_wrong_places(self):
        for place in (-1, 2, 3, 999999999, -999999999):
            self.check(InvalidStanding, None, with_door, HOUSE, STANDING, 0, 1, "RB", place=place)
            self.check(InvalidStanding, None, with_room, HOUSE, STANDING, 0, "RB", place=place)
            self.check(InvalidStanding, None, joined, HOUSE, STANDING, HOUSE, STANDING, 0, 1, "RB", place=place)

    def test_the_door_comes_before_the_place(self):
        for place in (-1, 0, 5):
            self.check(InvalidHouse, 2, with_door, HOUSE, STANDING, 1, 1, "RB", place=place)
            self.check(InvalidHouse, 2, with_door, HOUSE, STANDING, 0, 1, "RR", place=place)
            self.check(InvalidHouse, 2, with_room, HOUSE, STANDING, 1, "", place=place)
            self.check(InvalidHouse, 4, joined, HOUSE, STANDING, HOUSE, STANDING, 0, 0, "BB", place=place)

    def test_requirements_come_first(self):
        bad = Standing(STANDING.hands, [1, 3])
        self.check(InvalidStanding, None, with_door, HOUSE, bad, 0, 0, "RR", place=-1)
        self.check(InvalidStanding, None, with_room, HOUSE, bad, 9, "RR", place=-1)
        self.check(InvalidStanding, None, with_hand, HOUSE, bad, "X", 9)
        for room in (-1, 3, 999999999, -999999999):
            self.check(UnknownPart, None, with_door, HOUSE, STANDING, room, 1, "RR", place=-1)
            self.check(UnknownPart, None, with_door, HOUSE, STANDING, 1, room, "", place=-1)
            self.check(UnknownPart, None, with_door, HOUSE, STANDING, room, room, "RB")
            self.check(UnknownPart, None, with_room, HOUSE, STANDING, room, "RR", place=-1)
            self.check(UnknownPart, None, with_hand, HOUSE, STANDING, "R", room)

    def test_unknown_trades(self):
        for trade in ("", "RB", "X", "r", "**", " ", "BR"):
            self.check(UnknownPart, None, with_hand, HOUSE, STANDING, trade, 0)
        self.check(UnknownPart, None, with_hand, GUILDS, WORKING, "R", 0)


class QuickeningDoors(unittest.TestCase):

    def slow_doors(self, house, standing):
        """Try all triples."""
        found = []
        for first in range(house.rooms):
            for second in range(first + 1, house.rooms):
                for light in "BR":
                    cycle = light + ("R" if light == "B" else "B")
                    if slow_live(*with_door(house, standing, first, second, cycle)):
                        found.append((first, second, light))
        return found

    def test_against_all_triples(self):
        dead = many = 0
        for house, standing in samples(462, 500, most_rooms=6, most_hands=5) + parted_trades(464, 60, most_hands=4):
            if not slow_live(house, standing):
                dead += 1
                wanted = self.slow_doors(house, standing)
                many += len(wanted) > 3
                self.assertEqual(quickening_doors(house, standing), wanted)
        self.assertGreater(dead, 150)
        self.assertGreater(many, 40)

    def test_the_second_example(self):
        house = House(3, [(0, 1, "RB"), (1, 2, "RB")])
        dead = Standing([("R", 0), ("B", 2)], [1, 0])
        self.assertEqual(quickening_doors(house, dead), [(0, 1, "R"), (0, 2, "B"), (0, 2, "R"), (1, 2, "B")])

    def test_without_reds_or_blues(self):
        for hands in ([], [("R", 0), ("R", 1)], [("B", 2)]):
            self.assertEqual(quickening_doors(HOUSE, Standing(hands, [0, 0])), [])

    def test_requirements(self):
        def live(parts):
            parts["standing"][1] = [0, 0]

        house = House(3, [(0, 1, "RB"), (1, 2, "RB")])
        parts = parts_of(house, standing=Standing([("R", 0), ("B", 2)], [1, 0]))
        for break_trades in (other_trades, with_masters):
            check_requirements(self, quickening_doors, ["standing"], parts, [
                (InvalidStanding, unfit("standing")),
                (WrongTrades, break_trades),
                (NotDead, live),
            ])


class Joined(unittest.TestCase):

    def test_numbers(self):
        house, standing = joined(HOUSE, STANDING, House(2, [(1, 0, "BR")]), Standing([("B", 1), ("R", 0)], [1]), 2, 1, "RRB")
        doors = HOUSE.doors + ((4, 3, "BR"), (2, 4, "RRB"))
        self.assertEqual(plain(house), ("house", 5, doors, "RB"))
        hands = STANDING.hands + (("B", 4), ("R", 3))
        self.assertEqual(plain(standing), ("standing", hands, (1, 2, 1, 0)))

    def test_many_houses(self):
        rng = random.Random(463)
        for _ in range(100):
            trades = some_trades(rng)
            made = []
            for _ in range(2):
                house = random_house(rng, rng.randint(1, 5), rng.randint(0, 2), 6, trades)
                made.append((house, random_standing(rng, house, rng.randint(0, 4), trades + "*")))
            (first_house, first), (second_house, second) = made
            rooms = rng.randrange(first_house.rooms), rng.randrange(second_house.rooms)
            cycle = random_cycle(rng, 7, trades)
            place = rng.randrange(len(cycle))
            house, standing = joined(first_house, first, second_house, second, *rooms, cycle, place=place)
            shift = first_house.rooms
            self.assertEqual((house.rooms, house.trades), (shift + second_house.rooms, trades))
            doors = list(first_house.doors) + [(a + shift, b + shift, own) for a, b, own in second_house.doors]
            self.assertEqual(list(house.doors), doors + [(rooms[0], rooms[1] + shift, cycle)])
            self.assertEqual(standing.places, first.places + second.places + (place,))
            hands = list(first.hands) + [(trade, room + shift) for trade, room in second.hands]
            self.assertEqual(list(standing.hands), hands)

    def test_two_rooms(self):
        house, standing = joined(ONE_ROOM, EMPTY, ONE_ROOM, Standing([("*", 0)], []), 0, 0, "BR", place=1)
        self.assertEqual((plain(house), plain(standing)), (("house", 2, ((0, 1, "BR"),), "RB"), ("standing", (("*", 1),), (1,))))

    def test_unlike_trades(self):
        turned = House(2, [(0, 1, "RB")], trades="BR")
        for cycle, place in (("RB", 0), ("RR", 0), ("", -1), ("RB", 9)):
            for other, standing in ((turned, Standing([], [0])), (GUILDS, WORKING)):
                with self.assertRaises(InvalidHouse) as caught:
                    joined(HOUSE, STANDING, other, standing, 0, 1, cycle, place=place)
                self.assertIsNone(caught.exception.door)

    def test_requirements_come_first(self):
        bad = Standing([("*", 1)], [3])
        calls = [
            (InvalidStanding, HOUSE, Standing([], [0]), GUILDS, WORKING, 9, 9),
            (InvalidStanding, HOUSE, STANDING, GUILDS, bad, 9, 9),
            # Each standing has to fit its own house.
            (InvalidStanding, HOUSE, WORKING, GUILDS, STANDING, 0, 0),
            (UnknownPart, HOUSE, STANDING, GUILDS, WORKING, 3, 0),
            (UnknownPart, HOUSE, STANDING, GUILDS, WORKING, -1, 0),
            (UnknownPart, HOUSE, STANDING, GUILDS, WORKING, 0, 2),
            (UnknownPart, HOUSE, STANDING, GUILDS, WORKING, 0, -1),
            (UnknownPart, GUILDS, WORKING, HOUSE, STANDING, 2, 2),
            (InvalidHouse, GUILDS, WORKING, HOUSE, STANDING, 1, 2),
        ]
        for error, *arguments in calls:
            for cycle, place in (("RB", 0), ("", -5)):
                with self.assertRaises(error):
                    joined(*arguments, cycle, place=place)


class Requirements(unittest.TestCase):

    def test_order(self):
        def wrong_trade(parts):
            parts["trade"] = "X"

        parts = parts_of(HOUSE, standing=STANDING, first=0, second=2, cycle="RB", place=1, room=1, trade="B")
        for name in ("first", "second"):
            check_requirements(self, with_door, ["standing", "first", "second", "cycle", "*place"], parts, [
                (InvalidStanding, unfit("standing")),
                (UnknownPart, replaced(name, 3)),
                (InvalidHouse, replaced("cycle", "RRR")),
                (InvalidStanding, replaced("place", 2)),
            ])
        check_requirements(self, with_room, ["standing", "room", "cycle", "*place"], parts, [
            (InvalidStanding, unfit("standing")),
            (UnknownPart, replaced("room", 3)),
            (InvalidHouse, replaced("cycle", "RRR")),
            (InvalidStanding, replaced("place", 2)),
        ])
        for wrong in (wrong_trade, replaced("room", -1)):
            check_requirements(self, with_hand, ["standing", "trade", "room"], parts, [
                (InvalidStanding, unfit("standing")),
                (UnknownPart, wrong),
            ])


if __name__ == "__main__":
    unittest.main()
