"""Quiet runs and faults: points 47 to 50, and point 17 for lanternhouse/quiet.py."""

import random
import unittest

from lanternhouse.deeds import Run, course
from lanternhouse.errors import InvalidStanding, NotTree, UnknownPart, UnlikeHands, WrongTrades
from lanternhouse.house import House
from lanternhouse.quiet import first_fault, is_fault, quiet_run, steps_between
from lanternhouse.standing import Standing

from broken import check_requirements, fewer_hands, no_tree, other_hands, other_trades, parts_of, replaced, unfit
from broken import with_masters
from support import (
    another_standing, every_standing, plain, random_cycle, random_house, random_standing, slow_deeds, slow_do,
    slow_live, slow_reached, slow_rooted, slow_way, tree_samples,
)

NAMES = ("colours", "hand", "number", "piece")
CHAIN = House(4, [(0, 1, "RRRB"), (1, 2, "RRBB"), (2, 3, "RB")])
ONE_ROOM = House(1, [])


def slow_stretches(house, start, end):
    """Step on door by door, as point 47 says."""
    stretches = []
    for (_, _, cycle), place, last in zip(house.doors, start.places, end.places):
        letters = ""
        while place != last:
            letters += cycle[place]
            place = 0 if place == len(cycle) - 1 else place + 1
        stretches.append(letters)
    return stretches


def slow_piece(house, letters, door):
    """Collect the piece of a door, as point 48 says."""
    piece = {door}
    for _ in house.doors:
        for other in range(len(house.doors)):
            ends = [set(house.doors[own][:2]) for own in piece]
            if letters[other] == letters[door] and any(set(house.doors[other][:2]) & own for own in ends):
                piece.add(other)
    return piece


def slow_faults(house, start, end):
    """List all faults in their order, as points 48 and 49 say."""
    stretches = slow_stretches(house, start, end)
    letters = [stretch[0] if len(set(stretch)) == 1 else None for stretch in stretches]
    faults = []
    for door, stretch in enumerate(stretches):
        crossing = [
            trade for (trade, room), (_, last) in zip(start.hands, end.hands)
            if door in slow_way(house, room, last)
        ]
        if len(set(stretch)) == 2:
            faults.append(("colours", door))
        if letters[door] is not None and any(trade != letters[door] for trade in crossing):
            faults.append(("hand", door))
        if len(crossing) > len(stretch) or len(crossing) % 2 != len(stretch) % 2:
            faults.append(("number", door))
        if letters[door] is not None:
            rooms = {room for own in slow_piece(house, letters, door) for room in house.doors[own][:2]}
            if not any((letters[door], room) in start.hands for room in rooms):
                faults.append(("piece", door))
    return sorted(faults, key=lambda fault: (NAMES.index(fault[0]), fault[1]))


def slow_quiet(house, start, end):
    """Tell by a search over all runs with the steps whether there is a quiet run."""
    stretches = slow_stretches(house, start, end)
    if any(len(set(stretch)) > 1 for stretch in stretches):
        return False
    first = (start, (0,) * len(stretches))
    seen = {(start.hands, first[1])}
    newest = [first]
    while newest:
        standing, passes = newest.pop()
        if passes == tuple(len(stretch) for stretch in stretches) and standing.hands == end.hands:
            return True
        for hand, door in slow_deeds(house, standing):
            if passes[door] < len(stretches[door]):
                after = slow_do(house, standing, hand, door)
                more = tuple(count + (own == door) for own, count in enumerate(passes))
                if (after.hands, more) not in seen:
                    seen.add((after.hands, more))
                    newest.append((after, more))
    return False


def likely_ends(rng, house, start):
    """Make some ends that quiet runs may lead to: a few deeds further on, or with few steps."""
    ends = [another_standing(rng, house, start)]
    now = start
    for _ in range(rng.randint(0, 6)):
        deeds = slow_deeds(house, now)
        if deeds:
            now = slow_do(house, now, *rng.choice(deeds))
    ends.append(now)
    places = [(place + rng.choice([0, 0, 1, 2])) % len(house.doors[door][2]) for door, place in enumerate(now.places)]
    return ends + [Standing(now.hands, places), Standing(start.hands, places), quiet_end(rng, house, start)]


def quiet_end(rng, house, start):
    """Make an end to which a quiet run leads, by deeds that pass each door by one light only."""
    now, lights = start, {}
    for _ in range(rng.randint(0, 12)):
        deeds = []
        for hand, door in slow_deeds(house, now):
            cycle = house.doors[door][2]
            light = cycle[now.places[door]]
            turned = (now.places[door] + 1) % len(cycle) == start.places[door]
            if lights.get(door, light) == light and not turned:
                deeds.append((hand, door))
        if deeds:
            deed = rng.choice(deeds)
            lights[deed[1]] = house.doors[deed[1]][2][now.places[deed[1]]]
            now = slow_do(house, now, *deed)
    return now


def long_stretches(seed, count):
    """Make trees whose cycles have many equal letters side by side."""
    rng = random.Random(seed)
    made = []
    for _ in range(count):
        house = random_house(rng, rng.randint(2, 5))
        doors = [
            (first, second, random_cycle(rng, 3) + rng.choice("RB") * rng.randint(1, 4))
            for first, second, _ in house.doors
        ]
        house = House(house.rooms, doors)
        made.append((house, random_standing(rng, house, rng.randint(1, 3))))
    return made


class Steps(unittest.TestCase):

    def test_steps(self):
        start, end = Standing([], [1, 0, 1]), Standing([], [3, 0, 0])
        self.assertEqual(steps_between(CHAIN, start, end), [2, 0, 1])
        self.assertIsInstance(steps_between(CHAIN, start, end), list)

    def test_round_the_end_of_a_cycle(self):
        self.assertEqual(steps_between(CHAIN, Standing([], [3, 3, 1]), Standing([], [0, 2, 1])), [1, 3, 0])

    def test_one_room(self):
        self.assertEqual(steps_between(ONE_ROOM, Standing([], []), Standing([], [])), [])

    def test_against_point_47(self):
        rng = random.Random(180)
        for house, start in tree_samples(181, 100, longest=7):
            end = another_standing(rng, house, start)
            wanted = [len(stretch) for stretch in slow_stretches(house, start, end)]
            self.assertEqual(steps_between(house, start, end), wanted)


class Faults(unittest.TestCase):

    def check_faults(self, start, end, faults):
        """Check the first fault and every other one, and that there are no more."""
        self.assertEqual(first_fault(CHAIN, start, end), faults[0] if faults else None)
        for name in NAMES:
            for door in range(3):
                self.assertIs(is_fault(CHAIN, start, end, (name, door)), (name, door) in faults)

    def test_colours_alone(self):
        # Door 0 steps from R over the B; a hand of either trade goes there and back.
        start = Standing([("R", 0), ("B", 0)], [2, 0, 0])
        self.check_faults(start, Standing(start.hands, [0, 0, 0]), [("colours", 0)])

    def test_hand_alone(self):
        start = Standing([("B", 0), ("R", 0)], [1, 0, 0])
        self.check_faults(start, Standing([("B", 1), ("R", 0)], [2, 0, 0]), [("hand", 0)])
        # A red crosses as well, but one hand of the other trade is enough.
        start = Standing([("B", 0), ("R", 0)], [0, 0, 0])
        self.check_faults(start, Standing([("B", 1), ("R", 1)], [2, 0, 0]), [("hand", 0)])

    def test_number_alone(self):
        start = Standing([("R", 0), ("R", 0), ("R", 0)], [0, 0, 0])
        three = [("R", 1)] * 3
        self.check_faults(start, Standing(three, [1, 0, 0]), [("number", 0)])
        self.check_faults(start, Standing(three, [2, 0, 0]), [("number", 0)])
        self.check_faults(start, Standing(three, [3, 0, 0]), [])
        self.check_faults(start, Standing(start.hands, [1, 0, 0]), [("number", 0)])
        # Two hands cross a door without steps.
        self.check_faults(start, Standing([("R", 1), ("R", 1), ("R", 0)], [0, 0, 0]), [("number", 0)])

    def test_piece_alone(self):
        start = Standing([("R", 0), ("B", 3)], [0, 0, 0])
        self.check_faults(start, Standing(start.hands, [0, 2, 0]), [("piece", 1)])
        # Now door 0 joins them, and the piece of both has the red.
        self.check_faults(start, Standing(start.hands, [2, 2, 0]), [])

    def test_a_piece_has_one_letter(self):
        # The stretches are RR and BB; the red stands at the one, no blue at the other.
        start = Standing([("R", 0), ("B", 3)], [0, 2, 0])
        self.check_faults(start, Standing(start.hands, [2, 0, 0]), [("piece", 1)])
        start = Standing([("R", 0), ("B", 2)], [0, 2, 0])
        self.check_faults(start, Standing(start.hands, [2, 0, 0]), [])

    def test_a_door_between_two_pieces(self):
        # Door 1 has no steps, so the doors 0 and 2 do not hang together.
        house = House(4, [(0, 1, "RRB"), (1, 2, "RRB"), (2, 3, "RRB")])
        start = Standing([("R", 0)], [0, 0, 0])
        self.assertEqual(first_fault(house, start, Standing([("R", 0)], [2, 0, 2])), ("piece", 2))
        self.assertIsNone(first_fault(house, start, Standing([("R", 0)], [2, 2, 2])))

    def test_the_hand_of_a_piece_stands_there_in_the_first_standing(self):
        start, end = Standing([("R", 0)], [0, 0, 0]), Standing([("R", 2)], [0, 2, 0])
        self.check_faults(start, end, [("number", 0), ("number", 1), ("piece", 1)])

    def test_several_together_in_their_order(self):
        start = Standing([("B", 0), ("B", 0), ("R", 3)], [0, 0, 1])
        end = Standing([("B", 2), ("B", 1), ("R", 3)], [0, 2, 0])
        # Doors 1 and 2 step over RR and B; a blue crosses door 1, and two cross door 0.
        self.check_faults(start, end, [("hand", 1), ("number", 0), ("number", 1), ("number", 2), ("piece", 1), ("piece", 2)])
        end = Standing([("B", 2), ("B", 1), ("R", 3)], [0, 3, 0])
        self.check_faults(start, end, [("colours", 1), ("number", 0), ("number", 2), ("piece", 2)])

    def test_none(self):
        for places in ([0, 0, 0], [3, 2, 1]):
            standing = Standing([("R", 0), ("B", 2)], places)
            self.check_faults(standing, standing, [])
        standing = Standing([("R", 0)], [])
        self.assertIsNone(first_fault(ONE_ROOM, standing, standing))

    def test_names_that_are_not_listed(self):
        start = Standing([("B", 0), ("B", 0), ("R", 3)], [0, 0, 1])
        end = Standing([("B", 2), ("B", 1), ("R", 3)], [0, 2, 0])
        for name in ("", "Hand", "hands", "hand ", "colour", "room", "steps", "None"):
            for door in range(3):
                self.assertIs(is_fault(CHAIN, start, end, (name, door)), False)

    def test_a_fault_may_be_a_list(self):
        start = Standing([("R", 0)], [0, 0, 0])
        self.assertIs(is_fault(CHAIN, start, Standing([("R", 0)], [1, 0, 0]), ["number", 0]), True)
        self.assertIsInstance(first_fault(CHAIN, start, Standing([("R", 0)], [1, 0, 0])), tuple)

    def test_against_point_48(self):
        rng = random.Random(182)
        found = {name: 0 for name in NAMES}
        for house, start in tree_samples(183, 200, most_rooms=5, longest=6) + long_stretches(184, 200):
            for end in likely_ends(rng, house, start):
                faults = slow_faults(house, start, end)
                self.assertEqual(first_fault(house, start, end), faults[0] if faults else None)
                for name in NAMES:
                    for door in range(len(house.doors)):
                        found[name] += (name, door) in faults
                        self.assertIs(is_fault(house, start, end, (name, door)), (name, door) in faults)
        self.assertGreater(min(found.values()), 40)


class QuietRuns(unittest.TestCase):

    def check_quiet(self, house, start, end):
        """Check a quiet run against points 47 and 49."""
        run = quiet_run(house, start, end)
        self.assertIsInstance(run, Run)
        standings = course(house, start, run)
        self.assertEqual(plain(standings[-1]), plain(end))
        lights = {}
        for (_, door), before in zip(run, standings):
            lights.setdefault(door, []).append(house.doors[door][2][before.places[door]])
        for door, steps in enumerate(steps_between(house, start, end)):
            self.assertEqual(len(lights.get(door, [])), steps)
            self.assertLessEqual(len(set(lights.get(door, []))), 1)
        return run

    def test_the_empty_quiet_run(self):
        standing = Standing([("R", 0), ("B", 3)], [1, 1, 1])
        self.assertEqual(self.check_quiet(CHAIN, standing, standing).deeds, ())
        self.assertEqual(self.check_quiet(ONE_ROOM, Standing([("R", 0)], []), Standing([("R", 0)], [])).deeds, ())

    def test_a_hand_goes_there_and_back_behind_its_way(self):
        house = House(4, [(0, 1, "RB"), (1, 2, "RRRRB"), (2, 3, "RRB")])
        start = Standing([("R", 0)], [0, 0, 0])
        run = self.check_quiet(house, start, Standing([("R", 1)], [1, 4, 2]))
        self.assertEqual(len(run), 7)

    def test_a_hand_comes_by_at_doors_that_no_hand_stands_at(self):
        house = House(5, [(0, 1, "RRRB"), (1, 2, "RRB"), (1, 3, "RRB"), (3, 4, "RRRRB")])
        start = Standing([("B", 4), ("R", 0)], [0, 0, 0, 0])
        self.check_quiet(house, start, Standing([("B", 4), ("R", 0)], [2, 2, 2, 4]))
        self.check_quiet(house, start, Standing([("B", 4), ("R", 3)], [3, 0, 1, 4]))

    def test_none_for_a_fault(self):
        start = Standing([("R", 0)], [0, 0, 0])
        self.assertIsNone(quiet_run(CHAIN, start, Standing([("R", 0)], [1, 0, 0])))
        self.assertIsNone(quiet_run(CHAIN, start, Standing([("R", 1)], [0, 0, 0])))

    def test_against_a_search_over_runs(self):
        rng = random.Random(185)
        long = none = 0
        for house, start in tree_samples(186, 150, longest=5) + long_stretches(187, 150):
            for end in likely_ends(rng, house, start):
                if slow_quiet(house, start, end):
                    self.assertIsNone(first_fault(house, start, end))
                    long += len(self.check_quiet(house, start, end)) > 3
                else:
                    none += 1
                    self.assertIsNotNone(first_fault(house, start, end))
                    self.assertIsNone(quiet_run(house, start, end))
        self.assertTrue(long > 40 and none > 100)

    def test_large_trees(self):
        rng = random.Random(188)
        for _ in range(20):
            house = random_house(rng, 16)
            house = House(16, [(first, second, "R" * 11 + "B") for first, second, _ in house.doors])
            start = Standing([("R", rng.randrange(16)) for _ in range(40)], [0] * 15)
            # Seven hands move, so at most seven cross a door; the other steps are there and back.
            moved = [("R", rng.randrange(16)) for _ in range(7)] + list(start.hands[7:])
            ways = [slow_way(house, old[1], new[1]) for old, new in zip(start.hands, moved)]
            places = [sum(way.count(door) for way in ways) + 2 * rng.randint(0, 2) for door in range(15)]
            self.check_quiet(house, start, Standing(moved, places))

    def test_every_run_from_a_dead_or_to_an_unrooted_standing_is_quiet(self):
        dead = unrooted = 0
        for house, start in tree_samples(189, 60, most_rooms=3, most_hands=2, longest=3):
            reached = slow_reached(house, start)
            for end in every_standing(house, [trade for trade, _ in start.hands]):
                if not slow_live(house, start) or not slow_rooted(house, end):
                    dead += not slow_live(house, start)
                    unrooted += not slow_rooted(house, end)
                    run = quiet_run(house, start, end)
                    self.assertEqual(run is not None, plain(end) in reached)
                    if run is not None:
                        self.check_quiet(house, start, end)
        self.assertTrue(dead > 100 and unrooted > 100)


class Requirements(unittest.TestCase):

    def test_all_functions(self):
        start = Standing([("R", 0), ("B", 3), ("R", 0)], [0, 1, 0])
        end = Standing([("R", 1), ("B", 3), ("R", 0)], [1, 1, 0])
        parts = parts_of(CHAIN, start=start, end=end, fault=("number", 1))
        for break_hands in (other_hands("start"), other_hands("end"), fewer_hands("start"), fewer_hands("end")):
            breakers = [
                (InvalidStanding, unfit("start")),
                (InvalidStanding, unfit("end")),
                (UnlikeHands, break_hands),
                (WrongTrades, other_trades),
                (NotTree, no_tree),
            ]
            for function in (steps_between, first_fault, quiet_run):
                check_requirements(self, function, ["start", "end"], parts, breakers)
            for fault in (("number", -1), ("number", 99), ("room", -3), ("", 999999999)):
                known = [(UnknownPart, replaced("fault", fault))]
                check_requirements(self, is_fault, ["start", "end", "fault"], parts, breakers[:2] + known + breakers[2:])

    def test_masters(self):
        parts = parts_of(CHAIN, start=Standing([("R", 0)], [0, 0, 0]), end=Standing([("R", 0)], [0, 0, 0]))
        for function in (steps_between, first_fault, quiet_run):
            check_requirements(self, function, ["start", "end"], parts, [(WrongTrades, with_masters), (NotTree, no_tree)])


if __name__ == "__main__":
    unittest.main()
