"""Ledgers: points 35 to 37, and point 17 for lanternhouse/ledgers.py."""

import itertools
import random
import unittest

from lanternhouse.deeds import do
from lanternhouse.errors import InvalidStanding, NotTree, UnknownPart, UnlikeHands
from lanternhouse.house import House
from lanternhouse.ledgers import crossings, ledger_of, ledgers_of, settings_for, unlike_room
from lanternhouse.standing import Standing

from broken import check_requirements, fewer_hands, no_tree, other_hands, parts_of, replaced, unfit
from support import (
    another_standing, random_house, random_standing, samples, slow_deeds, slow_ledger, slow_tree_doors, slow_way,
)

TREE = House(4, [(0, 1, "RRB"), (2, 1, "RBRB"), (1, 3, "RB")])
STANDING = Standing([("R", 0), ("R", 0), ("B", 1), ("*", 3)], [2, 3, 0])
GUILDS = House(3, [(0, 1, "XYZ"), (1, 2, "XYZY"), (2, 0, "ZXY")], trades="XYZ")


class Ledgers(unittest.TestCase):

    def test_ledgers_of_rooms(self):
        # Room 0: 2 hands and place 2; room 1: 1 hand and 2 + 3 + 0; room 2: place 3; room 3: a master.
        self.assertEqual(ledgers_of(TREE, STANDING), [0, 0, 1, 1])
        self.assertIsInstance(ledgers_of(TREE, STANDING), list)

    def test_one_room(self):
        self.assertEqual(ledgers_of(House(1, []), Standing([("B", 0)] * 3, [])), [1])
        self.assertEqual(ledgers_of(House(1, []), Standing([], [])), [0])

    def test_other_trades(self):
        standing = Standing([("X", 0), ("Z", 2), ("*", 2)], [1, 3, 2])
        self.assertEqual(ledgers_of(GUILDS, standing), [(1 + 1 + 2) % 2, (1 + 3) % 2, (2 + 3 + 2) % 2])

    def test_ledgers_of_sets(self):
        self.assertEqual(ledger_of(TREE, STANDING, [0, 1]), (2 + 1 + 3 + 0) % 2)
        self.assertEqual(ledger_of(TREE, STANDING, [3, 1]), (1 + 1 + 2 + 3) % 2)
        self.assertEqual(ledger_of(TREE, STANDING, [2]), 1)

    def test_the_empty_set_and_all_rooms(self):
        self.assertEqual(ledger_of(TREE, STANDING, []), 0)
        self.assertEqual(ledger_of(TREE, STANDING, [0, 1, 2, 3]), 0)
        self.assertEqual(ledger_of(TREE, Standing([("R", 2)], [0, 0, 0]), [3, 2, 1, 0]), 1)

    def test_duplicates_count_once(self):
        self.assertEqual(ledger_of(TREE, STANDING, [2, 2]), 1)
        self.assertEqual(ledger_of(TREE, STANDING, [3, 2, 2, 3, 3, 2]), 0)
        self.assertEqual(ledger_of(TREE, STANDING, (3,) * 300), 1)

    def test_against_point_35(self):
        rng = random.Random(110)
        for house, standing in samples(111, 120, most_rooms=5, signs="RB*") + samples(112, 40, trades="XYZ"):
            rooms = range(house.rooms)
            self.assertEqual(ledgers_of(house, standing), [slow_ledger(house, standing, [room]) for room in rooms])
            for _ in range(6):
                some = [rng.choice(rooms) for _ in range(rng.randint(0, 6))]
                self.assertEqual(ledger_of(house, standing, some), slow_ledger(house, standing, some))

    def test_a_deed_in_an_even_house_changes_no_ledger(self):
        deeds = 0
        rng = random.Random(113)
        for _ in range(100):
            house = random_house(rng, rng.randint(2, 4), 2)
            even = House(house.rooms, [(a, b, cycle if len(cycle) % 2 == 0 else cycle + "R") for a, b, cycle in house.doors])
            standing = random_standing(rng, even, 3, signs="RB*")
            for deed in slow_deeds(even, standing):
                deeds += 1
                self.assertEqual(ledgers_of(even, do(even, standing, *deed)), ledgers_of(even, standing))
        self.assertGreater(deeds, 100)

    def test_never_unlike_in_one_room_only(self):
        rng = random.Random(114)
        for house, standing in samples(115, 150):
            other = random_standing(rng, house, len(standing.hands))
            pairs = zip(ledgers_of(house, standing), ledgers_of(house, other))
            self.assertNotEqual(sum(1 for first, second in pairs if first != second), 1)

    def test_requirements(self):
        parts = parts_of(TREE, standing=STANDING, rooms_listed=[0, 2])
        check_requirements(self, ledgers_of, ["standing"], parts, [(InvalidStanding, unfit("standing"))])
        for rooms in ([0, -1], [4], [1, 999999999, 1]):
            check_requirements(self, ledger_of, ["standing", "rooms_listed"], parts, [
                (InvalidStanding, unfit("standing")),
                (UnknownPart, replaced("rooms_listed", rooms)),
            ])


class UnlikeRooms(unittest.TestCase):

    def test_the_least_room(self):
        start = Standing([("R", 0), ("R", 1)], [0, 0, 0])
        self.assertEqual(unlike_room(TREE, start, Standing([("R", 0), ("R", 3)], [0, 0, 0])), 1)
        self.assertEqual(unlike_room(TREE, start, Standing([("R", 3), ("R", 2)], [0, 0, 0])), 0)
        self.assertEqual(unlike_room(TREE, start, Standing([("R", 0), ("R", 1)], [0, 1, 0])), 1)

    def test_none(self):
        start = Standing([("R", 0), ("R", 1)], [0, 0, 0])
        self.assertIsNone(unlike_room(TREE, start, start))
        self.assertIsNone(unlike_room(TREE, start, Standing([("R", 0), ("R", 3)], [0, 0, 1])))
        self.assertIsNone(unlike_room(House(1, []), Standing([], []), Standing([], [])))

    def test_other_hands(self):
        start = Standing([("R", 2)], [0, 0, 0])
        self.assertEqual(unlike_room(TREE, start, Standing([], [0, 0, 0])), 2)
        self.assertIsNone(unlike_room(TREE, start, Standing([("*", 2), ("B", 1), ("B", 1)], [0, 0, 0])))

    def test_both_orders(self):
        rng = random.Random(116)
        found = set()
        for house, start in samples(117, 150, most_rooms=5):
            end = random_standing(rng, house, rng.randint(0, 3))
            rooms = [
                room for room in range(house.rooms)
                if slow_ledger(house, start, [room]) != slow_ledger(house, end, [room])
            ]
            wanted = rooms[0] if rooms else None
            found.add(wanted)
            self.assertEqual(unlike_room(house, start, end), wanted)
            self.assertEqual(unlike_room(house, end, start), wanted)
        self.assertLessEqual({None, 0, 1, 2}, found)

    def test_requirements(self):
        parts = parts_of(TREE, start=STANDING, end=STANDING)
        check_requirements(self, unlike_room, ["start", "end"], parts, [
            (InvalidStanding, unfit("start")),
            (InvalidStanding, unfit("end")),
        ])


class Crossings(unittest.TestCase):

    def test_counts(self):
        start = Standing([("R", 0), ("B", 2), ("*", 3), ("R", 0)], [0, 0, 0])
        end = Standing([("R", 2), ("B", 0), ("*", 1), ("R", 0)], [1, 1, 1])
        self.assertEqual(crossings(TREE, start, end), [2, 2, 1])
        self.assertIsInstance(crossings(TREE, start, end), list)

    def test_hands_that_stay(self):
        self.assertEqual(crossings(TREE, STANDING, STANDING), [0, 0, 0])
        self.assertEqual(crossings(TREE, STANDING, Standing(STANDING.hands, [0, 0, 0])), [0, 0, 0])

    def test_one_room(self):
        standing = Standing([("R", 0), ("*", 0)], [])
        self.assertEqual(crossings(House(1, []), standing, standing), [])

    def test_other_trades(self):
        house = House(2, [(1, 0, "XYZ")], trades="XYZ")
        start, end = [Standing([("Z", room), ("X", 1)], [0]) for room in (0, 1)]
        self.assertEqual(crossings(house, start, end), [1])

    def test_against_the_ways(self):
        rng = random.Random(118)
        for house, start in samples(119, 150, most_rooms=7, more_doors=0, signs="RB*"):
            end = another_standing(rng, house, start)
            ways = [slow_way(house, old[1], new[1]) for old, new in zip(start.hands, end.hands)]
            wanted = [sum(way.count(door) for way in ways) for door in range(len(house.doors))]
            self.assertEqual(crossings(house, start, end), wanted)

    def test_equal_ledgers_by_crossings_and_places(self):
        alike = 0
        rng = random.Random(120)
        for house, start in samples(121, 400, most_rooms=3, more_doors=0):
            end = another_standing(rng, house, start)
            fit = all(
                (count - new + old) % 2 == 0
                for count, old, new in zip(crossings(house, start, end), start.places, end.places)
            )
            alike += fit
            self.assertEqual(fit, ledgers_of(house, start) == ledgers_of(house, end))
        self.assertTrue(50 < alike < 350)

    def test_requirements(self):
        end = Standing([("R", 1), ("R", 2), ("B", 1), ("*", 3)], [0, 0, 0])
        parts = parts_of(TREE, start=STANDING, end=end)
        for break_hands in (other_hands("start"), other_hands("end"), fewer_hands("start"), fewer_hands("end")):
            check_requirements(self, crossings, ["start", "end"], parts, [
                (InvalidStanding, unfit("start")),
                (InvalidStanding, unfit("end")),
                (UnlikeHands, break_hands),
                (NotTree, no_tree),
            ])

    def test_hands_in_another_order_are_other_hands(self):
        with self.assertRaises(UnlikeHands):
            crossings(TREE, Standing([("R", 0), ("B", 0)], [0, 0, 0]), Standing([("B", 0), ("R", 0)], [0, 0, 0]))


def slow_settings(house, hands, wanted, odd_rings):
    """Try all settings of the tree doors."""
    tree = slow_tree_doors(house)
    found = []
    for numbers in itertools.product((0, 1), repeat=len(tree)):
        setting = [1 if door in odd_rings else 0 for door in range(len(house.doors))]
        for door, number in zip(tree, numbers):
            setting[door] = number
        standing = Standing(hands, setting)
        if [slow_ledger(house, standing, [room]) for room in range(house.rooms)] == wanted:
            found.append(setting)
    return found


class Settings(unittest.TestCase):

    # Doors 1 and 3 are the ring doors.
    house = House(4, [(0, 1, "RB"), (0, 1, "RRB"), (1, 2, "RB"), (2, 0, "RB"), (3, 2, "RB")])
    hands = [("R", 0), ("B", 3), ("R", 3)]

    def test_a_setting(self):
        # Room 3 has its wanted ledger only if door 4 is odd, room 2 then only if door 2 is even.
        setting = settings_for(self.house, self.hands, [0, 1, 1, 1])
        self.assertEqual(setting, [1, 0, 0, 0, 1])
        self.assertIsInstance(setting, list)

    def test_ring_doors(self):
        self.assertEqual(settings_for(self.house, self.hands, [0, 1, 1, 1], odd_rings=[1]), [0, 1, 0, 0, 1])
        self.assertEqual(settings_for(self.house, self.hands, [0, 1, 1, 1], odd_rings=[3]), [0, 0, 1, 1, 1])

    def test_duplicates_count_once(self):
        for doors in ([3, 1], (1, 3, 1), [3, 3, 1, 1], [1] * 299 + [3]):
            self.assertEqual(settings_for(self.house, self.hands, [0, 1, 1, 1], odd_rings=doors), [1, 1, 1, 1, 1])

    def test_sums_that_do_not_fit(self):
        self.assertIsNone(settings_for(self.house, self.hands, [0, 0, 1, 1]))
        self.assertIsNone(settings_for(self.house, self.hands[1:], [0, 1, 0, 0], odd_rings=[1]))
        self.assertIsNone(settings_for(House(1, []), [], [1]))

    def test_one_room(self):
        self.assertEqual(settings_for(House(1, []), [("R", 0)], [1]), [])
        self.assertEqual(settings_for(House(1, []), [("R", 0), ("*", 0)], [0]), [])

    def test_against_all_settings(self):
        rng = random.Random(122)
        none = 0
        for house, standing in samples(123, 250, more_doors=3) + samples(124, 50, trades="XYZ"):
            wanted = [rng.randrange(2) for _ in range(house.rooms)]
            rings = [door for door in range(len(house.doors)) if door not in slow_tree_doors(house)]
            odd_rings = [door for door in rings if rng.random() < 0.5]
            found = slow_settings(house, standing.hands, wanted, odd_rings)
            setting = settings_for(house, standing.hands, wanted, odd_rings=odd_rings)
            none += setting is None
            self.assertEqual([] if setting is None else [setting], found)
        self.assertTrue(100 < none < 200)

    def test_each_standing_with_such_places_has_the_ledgers(self):
        setting = settings_for(TREE, [("B", 2)], [1, 1, 1, 0])
        for places in itertools.product(range(3), range(4), range(2)):
            fit = all(place % 2 == number for place, number in zip(places, setting))
            self.assertEqual(ledgers_of(TREE, Standing([("B", 2)], places)) == [1, 1, 1, 0], fit)

    def test_doors_that_are_no_ring_doors(self):
        for door in (0, 2, 4, 5, -1, -2, -4, 999999999, -999999999):
            for doors in ([door], [1, door, 3]):
                for wanted in ([0, 1, 1, 1], [0, 0, 1, 1]):
                    with self.assertRaises(UnknownPart):
                        settings_for(self.house, self.hands, wanted, odd_rings=doors)
        with self.assertRaises(UnknownPart):
            settings_for(House(1, []), [], [0], odd_rings=(0,))


if __name__ == "__main__":
    unittest.main()
