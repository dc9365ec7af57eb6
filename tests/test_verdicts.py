"""Verdicts: points 51 to 53, and point 17 for lanternhouse/verdicts.py."""

import itertools
import random
import unittest

from lanternhouse.deeds import Run, possible_deeds
from lanternhouse.errors import (
    InvalidStanding, NotLive, NotOdd, NotRooted, TooFewHands, UnlikeHands, WrongTrades,
)
from lanternhouse.house import House
from lanternhouse.papers import greatest_paper, least_paper
from lanternhouse.planner import plan
from lanternhouse.quiet import first_fault, is_fault, quiet_run
from lanternhouse.standing import Standing
from lanternhouse.verdicts import Verdict, decide, is_right

from broken import check_requirements, fewer_hands, not_odd, other_hands, other_trades, parts_of, unfit, with_masters
from support import (
    another_standing, every_standing, level, odd_house, odd_samples, plain, plans_to_make, random_standing, slow_deeds,
    slow_do, slow_is_paper, slow_ledger, slow_live, slow_reached, slow_rooted, slow_turned,
)

CHAIN = House(3, [(0, 1, "RB"), (1, 2, "RB")])
# The lights are B and R, the last lights R and B: dead and rooted.
DEAD = Standing([("R", 0), ("B", 2)], [1, 0])
# The lights are R and B, the last lights B and R: live, but not rooted.
NOT_ROOTED = Standing([("R", 0), ("B", 2)], [0, 1])
TOGETHER = Standing([("R", 1), ("B", 1)], [0, 0])
RING = House(3, [(0, 1, "RB"), (1, 2, "RRRB"), (2, 0, "BR")])
ATTRIBUTES = ("run", "room", "side", "paper", "fault")
NAMES = ("colours", "hand", "number", "piece")


def values_of(verdict):
    return {name: getattr(verdict, name) for name in ATTRIBUTES if getattr(verdict, name) is not None}


def unlike_rooms(house, start, end):
    return [
        room for room in range(house.rooms)
        if slow_ledger(house, start, [room]) != slow_ledger(house, end, [room])
    ]


def slow_leads(house, start, end, run):
    for deed in run:
        if deed not in slow_deeds(house, start):
            return False
        start = slow_do(house, start, *deed)
    return plain(start) == plain(end)


def slow_right(house, start, end, verdict):
    """Check the form of point 51 and the words of point 53."""
    values = values_of(verdict)
    if verdict.reached:
        return list(values) == ["run"] and slow_leads(house, start, end, verdict.run)
    if list(values) == ["room"]:
        return verdict.room in unlike_rooms(house, start, end)
    if list(values) != ["side", "paper", "fault"] or len(house.doors) != house.rooms - 1:
        return False
    if verdict.side not in ("start", "end") or verdict.fault[0] not in NAMES:
        return False
    own_house, standing = (house, start) if verdict.side == "start" else slow_turned(house, end)
    rooms = [room for part in verdict.paper for room in part]
    if not set(rooms) <= set(range(house.rooms)) or verdict.fault[1] not in range(len(house.doors)):
        return False
    return slow_is_paper(own_house, standing, *verdict.paper) and is_fault(house, start, end, verdict.fault)


class Verdicts(unittest.TestCase):

    def test_attributes(self):
        run = Run([(0, 0)])
        verdict = Verdict(True, run=run)
        self.assertIs(verdict.reached, True)
        self.assertIs(verdict.run, run)
        self.assertEqual(list(values_of(verdict)), ["run"])
        verdict = Verdict(False, room=3)
        self.assertIs(verdict.reached, False)
        self.assertEqual(values_of(verdict), {"room": 3})
        verdict = Verdict(False, side="end", paper=([0], [2, 1]), fault=("hand", 1))
        self.assertEqual(values_of(verdict), {"side": "end", "paper": ([0], [2, 1]), "fault": ("hand", 1)})

    def test_nothing_is_set_by_itself(self):
        for reached in (True, False):
            self.assertEqual(values_of(Verdict(reached)), {})

    def test_nothing_is_checked(self):
        verdict = Verdict(True, run=Run([(-1, 99)]), room=-7, side="middle", paper=([9, -1, 9], []), fault=("", -3))
        self.assertEqual(values_of(verdict), {
            "run": verdict.run, "room": -7, "side": "middle", "paper": ([9, -1, 9], []), "fault": ("", -3),
        })

    def test_papers_and_faults_are_kept_as_copies(self):
        paper, fault = [[2, 0, 2], (1,)], ["piece", 0]
        verdict = Verdict(False, paper=paper, fault=fault)
        paper[0].append(5)
        paper.pop()
        fault.append(7)
        self.assertEqual((verdict.paper, verdict.fault), (([2, 0, 2], [1]), ("piece", 0)))
        self.assertIsInstance(verdict.paper, tuple)
        self.assertTrue(all(isinstance(rooms, list) for rooms in verdict.paper))
        self.assertIsInstance(verdict.fault, tuple)


class Deciding(unittest.TestCase):

    def check_in_tree(self, house, start, end, reached):
        """Check the verdict against point 52 and against whether the end can be reached."""
        verdict = decide(house, start, end)
        self.assertIsInstance(verdict, Verdict)
        self.assertIs(verdict.reached, reached)
        self.assertTrue(slow_right(house, start, end, verdict))
        self.assertIs(is_right(house, start, end, verdict), True)
        quiet = quiet_run(house, start, end)
        if quiet is not None:
            kind, wanted = "quiet", {"run": quiet.deeds}
        elif slow_live(house, start) and slow_rooted(house, end):
            if reached:
                kind, wanted = "plan", {"run": plan(house, start, end)[0].deeds}
            else:
                kind, wanted = "room", {"room": unlike_rooms(house, start, end)[0]}
        else:
            kind = "end" if slow_live(house, start) else "start"
            sides = {"start": (house, start), "end": slow_turned(house, end)}
            wanted = {"side": kind, "paper": least_paper(*sides[kind]), "fault": first_fault(house, start, end)}
        values = values_of(verdict)
        if "run" in values:
            values["run"] = values["run"].deeds
        self.assertEqual(values, wanted)
        return kind

    def test_in_small_odd_trees(self):
        kinds = {kind: 0 for kind in ("quiet", "plan", "room", "start", "end")}
        rng = random.Random(190)
        for house, start in odd_samples(191, 250, most_rooms=4, hands=(0, 3), more_doors=0, longest=4):
            reached = slow_reached(house, start)
            ends = [Standing(hands, places) for _, hands, places in rng.sample(sorted(reached), min(5, len(reached)))]
            for end in ends + [another_standing(rng, house, start) for _ in range(10)]:
                kinds[self.check_in_tree(house, start, end, plain(end) in reached)] += 1
        self.assertGreater(min(kinds.values()), 20)

    def test_every_question_in_a_house(self):
        house = House(3, [(1, 0, "RB"), (2, 1, "BRRR")])
        for trades in ("RB", "RR", "B", ""):
            standings = every_standing(house, trades)
            for start in standings[::5]:
                reached = slow_reached(house, start)
                for end in standings:
                    self.check_in_tree(house, start, end, plain(end) in reached)

    def test_the_side(self):
        # The first standing is dead and the second one is not rooted: it is by the start.
        verdict = decide(CHAIN, DEAD, NOT_ROOTED)
        self.assertEqual(values_of(verdict), {"side": "start", "paper": ([0], [2]), "fault": ("number", 0)})
        # The first standing is dead, the second one rooted.
        verdict = decide(CHAIN, DEAD, TOGETHER)
        self.assertEqual((verdict.side, verdict.paper), ("start", ([0], [2])))
        # The first standing is live, the second one is not rooted.
        verdict = decide(CHAIN, TOGETHER, NOT_ROOTED)
        self.assertEqual((verdict.side, verdict.paper), ("end", ([0], [2])))
        # The first standing is live, the second one rooted: it is by a room.
        verdict = decide(CHAIN, NOT_ROOTED, DEAD)
        self.assertEqual(values_of(verdict), {"room": 0})

    def test_in_houses_with_rings(self):
        rng = random.Random(192)
        kinds = {"run": 0, "room": 0}
        for house, start in odd_samples(193, 400, most_rooms=4, hands=(3, 5), more_doors=3):
            if len(house.doors) == house.rooms - 1 or not slow_live(house, start):
                continue
            for end in (another_standing(rng, house, start), level(house, start, another_standing(rng, house, start))):
                if end is None or not slow_rooted(house, end):
                    continue
                verdict = decide(house, start, end)
                rooms = unlike_rooms(house, start, end)
                self.assertEqual(list(values_of(verdict)), ["room"] if rooms else ["run"])
                self.assertIs(verdict.reached, not rooms)
                self.assertEqual(verdict.room, rooms[0] if rooms else None)
                self.assertTrue(slow_right(house, start, end, verdict))
                self.assertIs(is_right(house, start, end, verdict), True)
                kinds["room" if rooms else "run"] += 1
        self.assertGreater(min(kinds.values()), 40)

    def test_rings_against_a_search(self):
        house = House(2, [(0, 1, "RB"), (1, 0, "RB")])
        start = Standing([("R", 0), ("B", 0), ("B", 1)], [0, 1])
        reached = slow_reached(house, start)
        for end in every_standing(house, "RBB"):
            if slow_rooted(house, end):
                self.assertIs(decide(house, start, end).reached, plain(end) in reached)

    def test_large_houses(self):
        rng = random.Random(194)
        for more_doors in (0, 9):
            house = odd_house(rng, 16, more_doors, longest=12)
            start = random_standing(rng, house, 40)
            end = level(house, start, another_standing(rng, house, start))
            verdict = decide(house, start, end)
            self.assertTrue(verdict.reached and is_right(house, start, end, verdict))

    def test_requirements_in_trees(self):
        end = Standing(TOGETHER.hands, [1, 0])
        for break_hands in (other_hands("start"), other_hands("end"), fewer_hands("start"), fewer_hands("end")):
            check_requirements(self, decide, ["start", "end"], parts_of(CHAIN, start=TOGETHER, end=end), [
                (InvalidStanding, unfit("start")),
                (InvalidStanding, unfit("end")),
                (UnlikeHands, break_hands),
                (WrongTrades, other_trades),
                (NotOdd, not_odd),
            ])
        check_requirements(self, decide, ["start", "end"], parts_of(CHAIN, start=TOGETHER, end=end), [
            (InvalidStanding, unfit("start")),
            (InvalidStanding, unfit("end")),
            (WrongTrades, with_masters),
            (NotOdd, not_odd),
        ])

    def test_a_house_that_is_not_odd_has_no_verdict(self):
        # There is a quiet run, and even an empty one, which needs no odd house.
        house = House(3, [(0, 1, "RRB"), (1, 2, "RB")])
        for hands in ([], [("R", 0)], [("R", 1), ("B", 1)]):
            start = Standing(hands, [0, 0])
            self.assertIsNotNone(quiet_run(house, start, start))
            with self.assertRaises(NotOdd):
                decide(house, start, start)
            with self.assertRaises(NotOdd):
                is_right(house, start, start, Verdict(True, run=Run([])))

    def test_trees_need_neither_hands_nor_live_nor_rooted_standings(self):
        for hands in ([], [("R", 0)], [("R", 0), ("B", 2)]):
            for first in ([0, 0], [1, 0], [0, 1], [1, 1]):
                for last in ([0, 0], [1, 0], [0, 1], [1, 1]):
                    start, end = Standing(hands, first), Standing(hands, last)
                    self.assertIs(is_right(CHAIN, start, end, decide(CHAIN, start, end)), True)

    def test_requirements_in_houses_with_rings(self):
        def too_few(parts):
            for name in ("start", "end"):
                parts[name][0].pop()

        def one_trade(name):
            def only_reds(parts):
                parts[name][0] = [("R", 0)] * len(parts[name][0])
            return only_reds

        start = Standing([("R", 0), ("B", 2), ("B", 1)], [0, 3, 0])
        parts = parts_of(RING, start=start, end=Standing(start.hands, [0, 1, 0]))
        for break_hands in (other_hands("start"), fewer_hands("end")):
            check_requirements(self, decide, ["start", "end"], parts, [
                (InvalidStanding, unfit("start")),
                (InvalidStanding, unfit("end")),
                (UnlikeHands, break_hands),
                (WrongTrades, other_trades),
                (NotOdd, not_odd),
            ])
        check_requirements(self, decide, ["start", "end"], parts, [
            (InvalidStanding, unfit("start")),
            (InvalidStanding, unfit("end")),
            (WrongTrades, other_trades),
            (NotOdd, not_odd),
            (TooFewHands, too_few),
        ])
        # Two standings without a blue have the same hands; the first one counts.
        for hands in ([("R", 0)] * 3, [("B", 1)] * 4):
            with self.assertRaises(NotLive):
                decide(RING, Standing(hands, [0, 0, 0]), Standing(hands, [0, 0, 0]))
        with self.assertRaises(TooFewHands):
            decide(RING, Standing([("R", 0)], [0, 0, 0]), Standing([("R", 0)], [0, 0, 0]))

    def test_live_comes_before_rooted_in_houses_with_rings(self):
        house = House(4, [(0, 1, "RB"), (1, 2, "RB"), (2, 3, "RB"), (2, 3, "RB")])
        hands = [("R", 0), ("B", 2), ("B", 2)]
        apart, live = Standing(hands, [1, 0, 1, 1]), Standing(hands, [0, 1, 1, 1])
        self.assertTrue(slow_live(house, live) and not slow_live(house, apart))
        self.assertTrue(slow_rooted(house, apart) and not slow_rooted(house, live))
        for start, end, error in ((apart, apart, NotLive), (apart, live, NotLive), (live, live, NotRooted)):
            with self.assertRaises(error):
                decide(house, start, end)


class Right(unittest.TestCase):

    def check(self, house, start, end, verdict):
        right = slow_right(house, start, end, verdict)
        self.assertIs(is_right(house, start, end, verdict), right, values_of(verdict))
        return right

    def test_runs(self):
        end = Standing([("R", 0), ("B", 1)], [1, 0])
        good = Run([(0, 0)])
        self.assertTrue(self.check(CHAIN, TOGETHER, end, Verdict(True, run=good)))
        self.assertTrue(self.check(CHAIN, TOGETHER, end, Verdict(True, run=Run([(0, 0), (1, 0), (0, 0), (1, 0), (0, 0)]))))
        for deeds in ([], [(1, 0)], [(0, 1)], [(0, 0), (0, 0)], [(-2, 0)], [(0, -2)], [(2, 0)], [(0, 2)], [(0, 0), (9, 9)]):
            self.assertFalse(self.check(CHAIN, TOGETHER, end, Verdict(True, run=Run(deeds))))
        self.assertFalse(self.check(CHAIN, TOGETHER, end, Verdict(True)))
        self.assertFalse(self.check(CHAIN, TOGETHER, end, Verdict(False, run=good)))
        self.assertTrue(self.check(CHAIN, TOGETHER, TOGETHER, Verdict(True, run=Run([]))))
        # The hands are as they are to be, but the places are not, and the other way round.
        self.assertFalse(self.check(CHAIN, TOGETHER, Standing(end.hands, [0, 0]), Verdict(True, run=good)))
        self.assertFalse(self.check(CHAIN, TOGETHER, Standing(TOGETHER.hands, [1, 0]), Verdict(True, run=good)))

    def test_rooms(self):
        end = Standing([("R", 1), ("B", 1)], [0, 1])
        for room, right in ((0, False), (1, True), (2, True), (3, False), (-1, False), (-2, False), (999999999, False)):
            self.assertIs(self.check(CHAIN, TOGETHER, end, Verdict(False, room=room)), right)
            self.assertFalse(self.check(CHAIN, TOGETHER, end, Verdict(True, room=room)))
            self.assertFalse(self.check(CHAIN, TOGETHER, TOGETHER, Verdict(False, room=room)))

    def test_room_0_with_other_attributes(self):
        end = Standing([("R", 1), ("B", 1)], [1, 0])
        self.assertTrue(self.check(CHAIN, TOGETHER, end, Verdict(False, room=0)))
        more = [
            {"run": Run([])}, {"side": "start"}, {"paper": ([], [])}, {"fault": ("number", 0)},
            {"side": "end", "paper": ([0], [2]), "fault": ("number", 0)},
        ]
        for added in more:
            self.assertFalse(self.check(CHAIN, TOGETHER, end, Verdict(False, room=0, **added)))

    def test_sides(self):
        fault = first_fault(CHAIN, DEAD, NOT_ROOTED)
        good = {"side": "start", "paper": ([0], [2]), "fault": fault}
        self.assertTrue(self.check(CHAIN, DEAD, NOT_ROOTED, Verdict(False, **good)))
        self.assertTrue(self.check(CHAIN, DEAD, NOT_ROOTED, Verdict(False, **{**good, "side": "end"})))
        self.assertFalse(self.check(CHAIN, DEAD, NOT_ROOTED, Verdict(True, **good)))
        for name in good:
            self.assertFalse(self.check(CHAIN, DEAD, NOT_ROOTED, Verdict(False, **{**good, name: None})))
        for side in ("", "Start", "middle", "start ", "ends"):
            self.assertFalse(self.check(CHAIN, DEAD, NOT_ROOTED, Verdict(False, **{**good, "side": side})))
        for paper in (([], []), ([0], []), ([2], [0]), ([0, 1], [2]), ([0], [1, 2]), ([0, -1], [2]), ([0], [2, 3]),
                      ([0, 3], [2]), ([999999999], [-999999999])):
            self.assertFalse(self.check(CHAIN, DEAD, NOT_ROOTED, Verdict(False, **{**good, "paper": paper})))
        for paper in (([0, 0], [2]), ((0,), (2, 2, 2))):
            self.assertTrue(self.check(CHAIN, DEAD, NOT_ROOTED, Verdict(False, **{**good, "paper": paper})))
        for name, door in (("number", -1), ("number", 2), ("number", 999999999), ("", 0), ("Number", 0), ("colours", 0)):
            self.assertFalse(self.check(CHAIN, DEAD, NOT_ROOTED, Verdict(False, **{**good, "fault": (name, door)})))
        self.assertTrue(self.check(CHAIN, DEAD, NOT_ROOTED, Verdict(False, **{**good, "fault": ("number", 1)})))

    def test_sides_of_live_and_rooted_standings(self):
        fault = ("number", 0)
        end = Standing(TOGETHER.hands, [1, 0])
        for side in ("start", "end"):
            for paper in (([0], [2]), ([1], []), ([], [1]), ([], []), ([1], [1])):
                self.assertFalse(self.check(CHAIN, TOGETHER, end, Verdict(False, side=side, paper=paper, fault=fault)))

    def test_any_paper_of_the_side(self):
        house = House(5, [(0, 1, "RB"), (1, 2, "RB"), (2, 3, "RB"), (3, 4, "RB")])
        start = Standing([("R", 0), ("B", 4)], [1, 1, 0, 0])
        end = Standing(start.hands, [1, 1, 0, 1])
        fault = first_fault(house, start, end)
        least, greatest = least_paper(house, start), greatest_paper(house, start)
        self.assertNotEqual(least, greatest)
        for paper in (least, greatest):
            self.assertTrue(self.check(house, start, end, Verdict(False, side="start", paper=paper, fault=fault)))

    def test_houses_with_rings(self):
        house = House(3, [(0, 1, "RB"), (1, 2, "RB"), (1, 2, "RB")])
        start, end = Standing(DEAD.hands, [1, 0, 0]), Standing(DEAD.hands, [0, 0, 0])
        sided = Verdict(False, side="start", paper=([0], [2]), fault=("number", 0))
        self.assertFalse(self.check(house, start, end, sided))
        self.assertTrue(self.check(house, start, end, Verdict(False, room=1)))
        self.assertTrue(self.check(house, start, start, Verdict(True, run=Run([]))))
        # With the third door left out it is right.
        self.assertTrue(self.check(CHAIN, DEAD, Standing(DEAD.hands, [0, 0]), sided))

    def test_all_kinds_of_attributes(self):
        """Try verdicts that are put together at random, right and wrong ones."""
        rng = random.Random(195)
        right = {kind: 0 for kind in ("run", "room", "side")}
        for house, start in odd_samples(196, 500, most_rooms=3, hands=(0, 3), more_doors=1, longest=4):
            end = another_standing(rng, house, start)
            if rng.random() < 0.3 and possible_deeds(house, start):
                end = slow_do(house, start, *possible_deeds(house, start)[0])
            pools = self.pools(rng, house, start, end)
            for _ in range(60):
                named = rng.choice([["run"], ["room"], ["side", "paper", "fault"]])
                named = [name for name in ATTRIBUTES if (name in named) != (rng.random() < 0.05)]
                verdict = Verdict(rng.random() < 0.4, **{name: rng.choice(pools[name]) for name in named})
                if self.check(house, start, end, verdict):
                    right[named[0]] += 1
        self.assertGreater(min(right.values()), 40)

    def pools(self, rng, house, start, end):
        rooms = list(range(house.rooms))
        papers = [([room for room in rooms if rng.random() < 0.5], [room for room in rooms if rng.random() < 0.5])]
        for own, standing in ((house, start), slow_turned(house, end)):
            if not slow_live(own, standing):
                papers += [least_paper(own, standing), greatest_paper(own, standing)] * 2
        doors = range(-1, len(house.doors) + 1)
        return {
            "run": [Run([]), Run(possible_deeds(house, start)[:1]), Run([(0, 0)]), Run([(0, 0), (0, 0)])],
            "room": [-1] + rooms + [house.rooms],
            "side": ["start", "end", "start", "end", "room"],
            "paper": papers + [(rooms, []), ([-1], rooms)],
            "fault": [(name, door) for name in (*NAMES, "fault") for door in doors],
        }

    def test_requirements(self):
        verdicts = [
            Verdict(True, run=Run([])), Verdict(False, room=1), Verdict(True), Verdict(False, side="x"),
            Verdict(False, side="start", paper=([9], []), fault=("number", 9)),
        ]
        for verdict, (house, start) in itertools.product(verdicts, [
            (CHAIN, Standing([("R", 1), ("B", 1)], [0, 0])), (RING, Standing([("R", 1)], [0, 0, 0])),
        ]):
            parts = parts_of(house, start=start, end=start, verdict=verdict)
            for break_hands in (other_hands("start"), fewer_hands("end")):
                check_requirements(self, is_right, ["start", "end", "verdict"], parts, [
                    (InvalidStanding, unfit("start")),
                    (InvalidStanding, unfit("end")),
                    (UnlikeHands, break_hands),
                    (WrongTrades, other_trades),
                    (NotOdd, not_odd),
                ])
            check_requirements(self, is_right, ["start", "end", "verdict"], parts, [
                (WrongTrades, with_masters), (NotOdd, not_odd),
            ])


class Shown(unittest.TestCase):

    def test_a_right_verdict_that_denies_shows_that_no_run_leads(self):
        denied = 0
        rng = random.Random(197)
        for house, start in odd_samples(198, 80, most_rooms=3, hands=(0, 2), more_doors=0):
            reached = slow_reached(house, start)
            for _ in range(10):
                end = another_standing(rng, house, start)
                doors = range(len(house.doors))
                for side, name, door in itertools.product(("start", "end"), NAMES, doors):
                    own, standing = (house, start) if side == "start" else slow_turned(house, end)
                    if not slow_live(own, standing):
                        paper = greatest_paper(own, standing)
                        verdict = Verdict(False, side=side, paper=paper, fault=(name, door))
                        if is_right(house, start, end, verdict):
                            denied += 1
                            self.assertNotIn(plain(end), reached)
        self.assertGreater(denied, 100)

    def test_plans_are_right(self):
        for house, start, end in plans_to_make(199, 20, hands=(3, 4)):
            self.assertIs(is_right(house, start, end, Verdict(True, run=plan(house, start, end)[0])), True)


if __name__ == "__main__":
    unittest.main()
