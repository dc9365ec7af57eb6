"""The facts of points 12, 13, 20 to 22, 24, 28 and 54, tried in small houses."""

import random
import unittest

from lanternhouse.deeds import Run, do, possible_deeds, replay
from lanternhouse.house import House
from lanternhouse.meeting import meeting_distance
from lanternhouse.mirror import recoloured_house, recoloured_standing, turned_house, turned_standing
from lanternhouse.papers import closed_rooms, greatest_paper, is_paper, least_paper
from lanternhouse.quiet import quiet_run
from lanternhouse.reach import is_live, is_rooted, meeting_rooms, root_rooms, safe_deeds, spread_of
from lanternhouse.standing import Standing, light_of

from support import another_standing, every_standing, mixed, plain, samples, slow_papers, slow_reached


# Reds go round the rooms 0 to 2, blues round the rooms 4 to 6, and room 3 is closed.
TWO_RINGS = House(7, [
    (0, 1, "RRRRRB"), (1, 2, "RRRB"), (2, 0, "RRBRB"), (2, 3, "RB"),
    (3, 4, "RB"), (4, 5, "BBBR"), (5, 6, "BBBBR"), (6, 4, "RBB"),
])
APART = Standing([("R", 0), ("B", 4), ("R", 2), ("B", 6), ("B", 6)], [0, 0, 0, 1, 0, 0, 1, 1])


def dead_samples(seed, count, **limits):
    found = samples(seed, count, **limits)
    return [(house, standing) for house, standing in found if not is_live(house, standing)]


def as_standing(value):
    """Turn a plain standing into a standing again."""
    return Standing(value[1], value[2])


class Reach(unittest.TestCase):

    def test_a_red_and_a_blue_in_one_room(self):
        tried = 0
        for house, standing in samples(80, 300, most_rooms=5):
            if mixed(standing):
                tried += 1
                self.assertTrue(is_live(house, standing))
                self.assertTrue(is_rooted(house, standing))
        self.assertGreater(tried, 50)

    def test_rooted_is_live_turned_back(self):
        for house, standing in samples(81, 200, most_rooms=5):
            turned = turned_house(house), turned_standing(house, standing)
            self.assertEqual(is_rooted(house, standing), is_live(*turned))
            self.assertEqual(root_rooms(house, standing), meeting_rooms(*turned))

    def test_deeds_in_dead_standings(self):
        deeds = 0
        for house, standing in dead_samples(82, 400, most_rooms=5, most_hands=5):
            for hand, door in possible_deeds(house, standing):
                deeds += 1
                after = do(house, standing, hand, door)
                self.assertFalse(is_live(house, after))
                own = standing.hands[hand][0]
                other = "B" if own == "R" else "R"
                self.assertLessEqual(set(spread_of(house, after, own)), set(spread_of(house, standing, own)))
                self.assertEqual(spread_of(house, after, other), spread_of(house, standing, other))
        self.assertGreater(deeds, 100)

    def test_a_door_whose_light_changes_is_passed_no_more(self):
        changed = 0
        for house, standing in dead_samples(83, 150, most_hands=3):
            for hand, door in possible_deeds(house, standing):
                after = do(house, standing, hand, door)
                if light_of(house, after, door) != light_of(house, standing, door):
                    changed += 1
                    for later in slow_reached(house, after):
                        deeds = possible_deeds(house, as_standing(later))
                        self.assertNotIn(door, [passed for _, passed in deeds])
        self.assertGreater(changed, 20)

    def test_no_run_from_a_dead_standing_leads_to_a_meeting(self):
        for house, standing in dead_samples(84, 150, most_hands=3):
            for later in slow_reached(house, standing):
                self.assertFalse(mixed(as_standing(later)))

    def test_every_standing_of_a_house(self):
        house = House(4, [(0, 1, "RB"), (2, 1, "RRB"), (2, 3, "BR")])
        live = 0
        for standing in every_standing(house, "RB"):
            safe = safe_deeds(house, standing)
            live += is_live(house, standing)
            self.assertEqual(is_live(house, standing), safe != [])
            for deed in safe:
                self.assertTrue(is_live(house, do(house, standing, *deed)))
        self.assertTrue(0 < live < 192)


class Papers(unittest.TestCase):

    def test_a_paper_exists_if_and_only_if_dead(self):
        for house, standing in samples(85, 200):
            self.assertEqual(slow_papers(house, standing) == [], is_live(house, standing))

    def test_a_paper_stays_a_paper(self):
        kept = 0
        for house, standing in dead_samples(86, 200):
            for paper in slow_papers(house, standing):
                for deed in possible_deeds(house, standing):
                    kept += 1
                    self.assertTrue(is_paper(house, do(house, standing, *deed), paper))
        self.assertGreater(kept, 100)

    def test_the_least_paper_shows_that_no_run_leads_to_a_meeting(self):
        for house, standing in dead_samples(87, 100, most_hands=3):
            paper = least_paper(house, standing)
            for later in slow_reached(house, standing):
                self.assertTrue(is_paper(house, as_standing(later), paper))

    def test_closed_rooms(self):
        for house, standing in dead_samples(88, 200, most_hands=3):
            closed = closed_rooms(house, standing)
            entered = {room for later in slow_reached(house, standing) for _, room in later[1]}
            self.assertEqual(closed, [room for room in range(house.rooms) if room not in entered])
            if {"R", "B"} == {trade for trade, _ in standing.hands}:
                self.assertNotEqual(closed, [])


class Recoloured(unittest.TestCase):

    def recoloured_samples(self, seed, count, **limits):
        return [
            (house, standing, recoloured_house(house), recoloured_standing(house, standing))
            for house, standing in samples(seed, count, **limits)
        ]

    def test_spreads(self):
        for house, standing, other_house, other in self.recoloured_samples(92, 150, most_rooms=5):
            self.assertEqual(spread_of(other_house, other, "R"), spread_of(house, standing, "B"))
            self.assertEqual(spread_of(other_house, other, "B"), spread_of(house, standing, "R"))
            self.assertEqual(meeting_rooms(other_house, other), meeting_rooms(house, standing))
            self.assertEqual(root_rooms(other_house, other), root_rooms(house, standing))

    def test_papers(self):
        dead = 0
        for house, standing, other_house, other in self.recoloured_samples(93, 150):
            if not is_live(house, standing):
                dead += 1
                reds, blues = greatest_paper(house, standing)
                self.assertEqual(least_paper(other_house, other), (blues, reds))
                reds, blues = least_paper(house, standing)
                self.assertEqual(greatest_paper(other_house, other), (blues, reds))
                papers = [(second, first) for first, second in slow_papers(house, standing)]
                self.assertEqual(sorted(slow_papers(other_house, other)), sorted(papers))
        self.assertGreater(dead, 30)

    def test_first_meetings(self):
        for house, standing, other_house, other in self.recoloured_samples(94, 200, most_rooms=6):
            self.assertEqual(meeting_distance(other_house, other), meeting_distance(house, standing))

    def test_quiet_runs(self):
        rng = random.Random(95)
        for house, standing, other_house, other in self.recoloured_samples(96, 150, more_doors=0):
            end = another_standing(rng, house, standing)
            runs = [
                quiet_run(house, standing, end),
                quiet_run(other_house, other, recoloured_standing(house, end)),
            ]
            self.assertEqual(runs[0] is None, runs[1] is None)


class TurnedBack(unittest.TestCase):

    def test_quiet_runs(self):
        rng = random.Random(97)
        for house, standing in samples(98, 200, more_doors=0):
            end = another_standing(rng, house, standing)
            if rng.random() < 0.5:
                for _ in range(4):
                    deeds = possible_deeds(house, end)
                    end = do(house, end, *rng.choice(deeds)) if deeds else end
            back = [turned_standing(house, one) for one in (end, standing)]
            turned = quiet_run(turned_house(house), *back)
            run = quiet_run(house, standing, end)
            self.assertEqual(run is None, turned is None)
            if run is not None:
                self.assertEqual(plain(replay(turned_house(house), back[0], -run)), plain(back[1]))


class TwoTradesInDeadStandings(unittest.TestCase):

    def random_run(self, rng, house, standing, trade):
        """Return a run that moves hands of the trade only."""
        deeds = []
        for _ in range(6):
            possible = [
                deed for deed in possible_deeds(house, standing) if standing.hands[deed[0]][0] == trade
            ]
            if possible:
                deeds.append(rng.choice(possible))
                standing = do(house, standing, *deeds[-1])
        return deeds

    def mix(self, rng, first, second):
        """Put two lists together in a random order that keeps the order of each."""
        first, second, both = list(first), list(second), []
        while first or second:
            part = first if first and (not second or rng.random() < 0.5) else second
            both.append(part.pop(0))
        return both

    def test_neither_possible_nor_impossible(self):
        tried = 0
        for house, standing in dead_samples(89, 400, most_rooms=5, most_hands=5, longest=6):
            for hand, door in possible_deeds(house, standing):
                tried += 1
                own = standing.hands[hand][0]
                after = do(house, standing, hand, door)
                before_others, after_others = [
                    [deed for deed in possible_deeds(house, one) if one.hands[deed[0]][0] != own]
                    for one in (standing, after)
                ]
                self.assertEqual(before_others, after_others)
        self.assertGreater(tried, 100)

    def test_runs_of_the_two_can_be_mixed_in_any_order(self):
        rng = random.Random(90)
        long = 0
        tried = dead_samples(91, 300, most_rooms=6, most_hands=6, longest=7) + [(TWO_RINGS, APART)] * 60
        for house, standing in tried:
            reds = self.random_run(rng, house, standing, "R")
            blues = self.random_run(rng, house, standing, "B")
            long += len(reds) > 1 and len(blues) > 1
            end = replay(house, standing, Run(reds + blues))
            self.assertEqual(plain(replay(house, standing, Run(blues + reds))), plain(end))
            for _ in range(4):
                mixture = Run(self.mix(rng, reds, blues))
                self.assertEqual(plain(replay(house, standing, mixture)), plain(end))
        self.assertGreater(long, 10)


if __name__ == "__main__":
    unittest.main()
