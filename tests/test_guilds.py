"""Many trades: points 66 to 68, and point 17 for lanternhouse/guilds.py."""

import itertools
import random
import unittest

from lanternhouse.deeds import Run
from lanternhouse.errors import (
    BadSteps, InvalidStanding, NoCrew, NotOdd, NotThere, UnknownPart, WrongTrades,
)
from lanternhouse.guilds import crew_of, crew_walk, exchange, trade_ledgers, unlike_trades
from lanternhouse.house import House
from lanternhouse.standing import Standing

from broken import check_requirements, parts_of, replaced, unfit, with_masters
from support import (
    another_standing, odd_house, random_standing, samples, slow_deeds, slow_do, slow_replay, slow_wander, some_trades,
)

# The cycles have three and five letters; the trades are not in the order of the letters.
GUILDS = House(3, [(0, 1, "YXZ"), (2, 1, "ZYXZZ")], trades="XYZ")
CREW = Standing(
    [("Z", 1), ("Y", 1), ("X", 1), ("X", 1), ("Y", 0), ("Z", 2), ("Z", 1), ("X", 0), ("X", 2)], [1, 3]
)


def slow_trade_ledgers(house, standing):
    """Count as point 66 says."""
    ledgers = []
    for room in range(house.rooms):
        numbers = []
        for trade in house.trades:
            number = sum(1 for hand in standing.hands if hand == (trade, room))
            for (first, second, cycle), place in zip(house.doors, standing.places):
                if room in (first, second):
                    number += sum(1 for at in range(place) if cycle[at] == trade)
            numbers.append(number % 2)
        ledgers.append(tuple(1 - number for number in numbers) if numbers[0] == 1 else tuple(numbers))
    return ledgers


def slow_crew(house, standing):
    """Look at all lists of hands, one of each trade, in the order of point 67."""
    for room in range(house.rooms):
        crew = []
        for trade in house.trades:
            crew += [hand for hand, own in enumerate(standing.hands) if own == (trade, room)][:1]
        if len(crew) == len(house.trades):
            return crew
    return None


def guild_samples(seed, count, most_rooms=5, hands=(0, 8), more_doors=3, longest=9):
    """Make pairs of an odd house with two to five trades and a standing that fits it."""
    rng = random.Random(seed)
    made = []
    for _ in range(count):
        house = odd_house(rng, rng.randint(1, most_rooms), rng.randint(0, more_doors), longest, some_trades(rng))
        made.append((house, random_standing(rng, house, rng.randint(*hands))))
    return made


class TradeLedgers(unittest.TestCase):

    def test_by_hand(self):
        # Room 0: Y, X and the letter Y. Room 1: X X, Y, Z Z, and the letters Y, Z Y X. Room 2: Z, X and Z Y X.
        self.assertEqual(trade_ledgers(GUILDS, CREW), [(0, 1, 1), (0, 0, 0), (0, 1, 0)])

    def test_against_point_66(self):
        trades = set()
        for house, standing in guild_samples(410, 250):
            trades.add(len(house.trades))
            self.assertEqual(trade_ledgers(house, standing), slow_trade_ledgers(house, standing))
        self.assertEqual(trades, {2, 3, 4, 5})

    def test_no_deed_changes_them(self):
        deeds = 0
        for house, standing in guild_samples(411, 120):
            for hand, door in slow_deeds(house, standing):
                deeds += 1
                after = slow_do(house, standing, hand, door)
                self.assertEqual(trade_ledgers(house, after), trade_ledgers(house, standing))
                self.assertIsNone(unlike_trades(house, standing, after))
        self.assertGreater(deeds, 100)

    def test_two_trades(self):
        house = House(2, [(0, 1, "RRRB")])
        standing = Standing([("B", 0), ("R", 1), ("R", 1)], [3])
        # Room 0 has B and R R R, room 1 has R R and R R R.
        self.assertEqual(trade_ledgers(house, standing), [(0, 0), (0, 1)])

    def test_unlike(self):
        rng = random.Random(412)
        found = set()
        for house, start in guild_samples(413, 300):
            end = another_standing(rng, house, start)
            pairs = zip(slow_trade_ledgers(house, start), slow_trade_ledgers(house, end))
            rooms = [room for room, (first, second) in enumerate(pairs) if first != second]
            found.update(rooms[:1])
            self.assertEqual(unlike_trades(house, start, end), rooms[0] if rooms else None)
        self.assertLessEqual({0, 1, 2}, found)

    def test_unlike_hands(self):
        # The number of hands may differ, too.
        first, second = Standing([("X", 1)], [0, 0]), Standing([("X", 1), ("Y", 2), ("Y", 0), ("Y", 0)], [0, 0])
        self.assertEqual(unlike_trades(GUILDS, first, second), 2)
        self.assertEqual(unlike_trades(GUILDS, first, Standing([], [0, 0])), 1)
        self.assertIsNone(unlike_trades(GUILDS, first, Standing([("Y", 1), ("Z", 1)], [0, 0])))


class Crews(unittest.TestCase):

    def test_least_room_and_least_hands(self):
        self.assertEqual(crew_of(GUILDS, CREW), [2, 1, 0])
        hands = [("X", 2), ("Y", 2), ("Z", 1), ("Z", 2), ("X", 1), ("X", 1), ("Y", 1), ("Z", 2)]
        self.assertEqual(crew_of(GUILDS, Standing(hands, [0, 0])), [4, 6, 2])
        self.assertEqual(crew_of(GUILDS, Standing(hands[:6], [0, 0])), [0, 1, 3])
        self.assertIsNone(crew_of(GUILDS, Standing(hands[:3], [0, 0])))
        self.assertIsNone(crew_of(GUILDS, Standing([], [0, 0])))

    def test_against_all_rooms(self):
        found = {True: 0, False: 0}
        for house, standing in guild_samples(414, 300, most_rooms=3, hands=(0, 12)):
            wanted = slow_crew(house, standing)
            found[wanted is None] += 1
            self.assertEqual(crew_of(house, standing), wanted)
        self.assertGreater(min(found.values()), 50)

    def test_houses_that_are_not_odd(self):
        for house, standing in samples(415, 60, most_hands=6, trades="XYZ"):
            self.assertEqual(crew_of(house, standing), slow_crew(house, standing))


class CrewWalks(unittest.TestCase):

    def check_walk(self, house, standing, crew, door):
        run = crew_walk(house, standing, crew, door)
        self.assertIsInstance(run, Run)
        self.assertEqual(len(run), len(house.doors[door][2]))
        self.assertTrue(all(hand in crew and own == door for hand, own in run))
        end = slow_replay(house, standing, run)
        first, second, _ = house.doors[door]
        room = second if standing.hands[crew[0]][1] == first else first
        hands = list(standing.hands)
        for hand in crew:
            hands[hand] = (hands[hand][0], room)
        self.assertEqual((end.hands, end.places), (tuple(hands), standing.places))
        # Each letter is taken by the hand whose trade it is.
        cycle, place = house.doors[door][2], standing.places[door]
        letters = [cycle[(place + at) % len(cycle)] for at in range(len(cycle))]
        self.assertEqual([hand for hand, _ in run], [crew[house.trades.index(letter)] for letter in letters])

    def test_both_doors(self):
        for crew in ([2, 1, 0], (3, 1, 6), [3, 1, 0]):
            for door in (0, 1):
                self.check_walk(GUILDS, CREW, crew, door)

    def test_many_houses(self):
        walks = 0
        for house, standing in guild_samples(416, 250, most_rooms=3, hands=(2, 12)):
            crew = slow_crew(house, standing)
            if crew is not None:
                room = standing.hands[crew[0]][1]
                for door, (first, second, _) in enumerate(house.doors):
                    if room in (first, second):
                        walks += 1
                        self.check_walk(house, standing, crew, door)
        self.assertGreater(walks, 80)


def slow_odd(house, letters):
    return {trade for trade in house.trades if list(letters).count(trade) % 2 == 1}


def slow_can_exchange(house, standing, movers, door, steps):
    """Tell whether the exchange is possible, by the rule of point 68."""
    cycle, place = house.doors[door][2], standing.places[door]
    passed = slow_odd(house, [cycle[(place + at) % len(cycle)] for at in range(steps)])
    wanted = slow_odd(house, [standing.hands[mover][0] for mover in set(movers)])
    return wanted == passed or wanted == set(house.trades) - passed


class Exchanges(unittest.TestCase):

    def check_exchange(self, house, standing, crew, movers, door, steps):
        """Check the answer, and return whether there is an exchange."""
        run = exchange(house, standing, crew, movers, door, steps=steps)
        self.assertEqual(run is not None, slow_can_exchange(house, standing, movers, door, steps))
        if run is None:
            return False
        first, second, cycle = house.doors[door]
        self.assertIsInstance(run, Run)
        self.assertLessEqual(len(run), (len(set(movers)) + 2) * len(cycle))
        self.assertTrue(all((hand in crew or hand in movers) and own == door for hand, own in run))
        hands, places = list(standing.hands), list(standing.places)
        for mover in set(movers):
            trade, room = hands[mover]
            hands[mover] = (trade, second if room == first else first)
        places[door] = (places[door] + steps) % len(cycle)
        end = slow_replay(house, standing, run)
        self.assertEqual((end.hands, end.places), (tuple(hands), tuple(places)))
        return True

    def test_all_movers_and_steps(self):
        found = {True: 0, False: 0}
        for door, ends in ((0, (0, 1)), (1, (1, 2))):
            others = [hand for hand, (_, room) in enumerate(CREW.hands) if room in ends and hand not in (2, 1, 0)]
            for size in range(len(others) + 1):
                for movers in itertools.combinations(others, size):
                    for steps in range(len(GUILDS.doors[door][2])):
                        found[self.check_exchange(GUILDS, CREW, [2, 1, 0], movers, door, steps)] += 1
        self.assertGreater(min(found.values()), 30)

    def test_many_houses(self):
        rng = random.Random(417)
        found = {True: 0, False: 0}
        many = 0
        for house, standing in guild_samples(418, 400, most_rooms=3, hands=(4, 14)):
            crew = slow_crew(house, standing)
            if crew is None:
                continue
            room = standing.hands[crew[0]][1]
            for door, (first, second, cycle) in enumerate(house.doors):
                if room in (first, second):
                    others = [
                        hand for hand, (_, own) in enumerate(standing.hands)
                        if own in (first, second) and hand not in crew
                    ]
                    for _ in range(6):
                        movers = rng.sample(others, rng.randint(0, len(others)))
                        many += len(movers) > 4
                        steps = rng.randrange(len(cycle))
                        found[self.check_exchange(house, standing, crew, movers, door, steps)] += 1
        self.assertGreater(min(found.values()), 100)
        self.assertGreater(many, 20)

    def test_no_movers(self):
        self.assertEqual(len(exchange(GUILDS, CREW, [2, 1, 0], [], 0)), 0)
        for door in (0, 1):
            for steps in range(3):
                self.check_exchange(GUILDS, CREW, [2, 1, 0], [], door, steps)

    def test_many_movers_of_one_trade(self):
        house = House(2, [(0, 1, "XXXXXYZ")], trades="XYZ")
        for trade in "XYZ":
            hands = [("X", 0), ("Y", 0), ("Z", 0)] + [(trade, room) for room in (0, 1) for _ in range(10)]
            for place in range(7):
                standing = Standing(hands, [place])
                for movers in (range(3, 23), range(3, 14), range(13, 23), range(3, 22)):
                    for steps in range(7):
                        self.check_exchange(house, standing, [0, 1, 2], list(movers), 0, steps)

    def test_duplicates_and_any_order(self):
        for movers in ([4, 1 + 2, 4, 3], [3, 4, 3], (3, 4), [4, 4, 4, 3, 3, 3]):
            for steps in range(3):
                self.check_exchange(GUILDS, CREW, [2, 1, 0], movers, 0, steps)
        once = exchange(GUILDS, CREW, [2, 1, 0], [3, 7], 0)
        self.assertIsNotNone(once)
        self.assertEqual(exchange(GUILDS, CREW, [2, 1, 0], [7, 3, 7, 7], 0).deeds, once.deeds)

    def test_without_steps(self):
        # One hand of each trade, and two of one trade, can be exchanged with 0 steps; one hand alone cannot.
        self.assertTrue(self.check_exchange(GUILDS, CREW, [2, 1, 0], [3, 4, 6], 0, 0))
        self.assertTrue(self.check_exchange(GUILDS, CREW, [2, 1, 0], [3, 7], 0, 0))
        for mover in (3, 4, 6, 7):
            self.assertFalse(self.check_exchange(GUILDS, CREW, [2, 1, 0], [mover], 0, 0))
        self.assertIsNone(exchange(GUILDS, CREW, [2, 1, 0], [3], 0))

    def test_after_other_deeds(self):
        rng = random.Random(419)
        for _ in range(40):
            standing = slow_wander(rng, GUILDS, CREW, 30)
            crew = slow_crew(GUILDS, standing)
            if crew is not None:
                room = standing.hands[crew[0]][1]
                for door, (first, second, cycle) in enumerate(GUILDS.doors):
                    if room in (first, second):
                        others = [
                            hand for hand, (_, own) in enumerate(standing.hands)
                            if own in (first, second) and hand not in crew
                        ]
                        for steps in range(len(cycle)):
                            self.check_exchange(GUILDS, standing, crew, others, door, steps)


def not_odd_guilds(parts):
    parts["doors"][0][2] = "XXYZ"


class Requirements(unittest.TestCase):

    def test_ledgers(self):
        check_requirements(self, trade_ledgers, ["standing"], parts_of(GUILDS, standing=CREW), [
            (InvalidStanding, unfit("standing")),
            (WrongTrades, with_masters),
            (NotOdd, not_odd_guilds),
        ])

    def test_unlike(self):
        def master_in(name):
            def with_a_master(parts):
                parts[name][0].append(("*", 0))
            return with_a_master

        parts = parts_of(GUILDS, start=CREW, end=Standing(CREW.hands, [0, 0]))
        for name in ("start", "end"):
            check_requirements(self, unlike_trades, ["start", "end"], parts, [
                (InvalidStanding, unfit("start")),
                (InvalidStanding, unfit("end")),
                (WrongTrades, master_in(name)),
                (NotOdd, not_odd_guilds),
            ])

    def test_crew(self):
        parts = parts_of(GUILDS, standing=CREW)
        check_requirements(self, crew_of, ["standing"], parts, [
            (InvalidStanding, unfit("standing")),
            (WrongTrades, with_masters),
        ])

    NO_CREWS = ([], [2, 1], [2, 1, 0, 0], [1, 2, 0], [2, 1, 5], [7, 4, 0], [2, 2, 2], [2, 1, 0, 2, 1, 0], [0, 1, 2])

    def test_walk(self):
        def far(parts):
            hands = parts["standing"][0]
            for hand, room in ((2, 2), (1, 2), (0, 2), (5, 0)):
                hands[hand] = (hands[hand][0], room)

        parts = parts_of(GUILDS, standing=CREW, crew=[2, 1, 0], door=0)
        unknown = [("crew", [2, 1, 999999999]), ("crew", [-1, 1, 0]), ("crew", [99]), ("door", 2), ("door", -1)]
        for name, value in unknown:
            check_requirements(self, crew_walk, ["standing", "crew", "door"], parts, [
                (InvalidStanding, unfit("standing")),
                (UnknownPart, replaced(name, value)),
                (WrongTrades, with_masters),
                (NotOdd, not_odd_guilds),
                (NotThere, far),
            ])
        for crew in self.NO_CREWS:
            check_requirements(self, crew_walk, ["standing", "crew", "door"], parts, [
                (InvalidStanding, unfit("standing")),
                (UnknownPart, replaced("door", 5)),
                (WrongTrades, with_masters),
                (NotOdd, not_odd_guilds),
                (NoCrew, replaced("crew", crew)),
                (NotThere, far),
            ])

    def test_exchange(self):
        names = ["standing", "crew", "movers", "door", "*steps"]

        def far(parts):
            hands = parts["standing"][0]
            for hand in (2, 1, 0, 3):
                hands[hand] = (hands[hand][0], 2)

        parts = parts_of(GUILDS, standing=CREW, crew=[2, 1, 0], movers=[4, 3], door=0, steps=1)
        unknown = [("crew", [2, 1, 99]), ("movers", [4, -1]), ("movers", [99]), ("door", 2), ("door", -1)]
        for name, value in unknown:
            for steps in (-1, 4, 999999999, -999999999):
                check_requirements(self, exchange, names, parts, [
                    (InvalidStanding, unfit("standing")),
                    (UnknownPart, replaced(name, value)),
                    (WrongTrades, with_masters),
                    (NotOdd, not_odd_guilds),
                    (NotThere, far),
                    (BadSteps, replaced("steps", steps)),
                ])
        for crew in self.NO_CREWS:
            for movers in ([2], [4, 3, 1], [5], [4, 8], [0, 1, 2]):
                check_requirements(self, exchange, names, parts, [
                    (InvalidStanding, unfit("standing")),
                    (UnknownPart, replaced("door", 5)),
                    (WrongTrades, with_masters),
                    (NotOdd, not_odd_guilds),
                    (NoCrew, replaced("crew", crew)),
                    (NotThere, replaced("movers", movers)),
                ])
        for movers in ([2], [4, 3, 1], [5], [4, 8]):
            check_requirements(self, exchange, names, parts, [
                (NoCrew, replaced("crew", [1, 2, 0])),
                (NotThere, replaced("movers", movers)),
                (BadSteps, replaced("steps", 4)),
            ])

    def test_limits_of_the_steps(self):
        for door, letters in ((0, 3), (1, 5)):
            exchange(GUILDS, CREW, [2, 1, 0], [], door, steps=letters - 1)
            for steps in (-1, letters, letters + 1):
                with self.assertRaises(BadSteps):
                    exchange(GUILDS, CREW, [2, 1, 0], [], door, steps=steps)


if __name__ == "__main__":
    unittest.main()
