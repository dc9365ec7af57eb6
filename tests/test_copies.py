"""Point 2: nothing that is passed is changed, and nothing is remembered."""

import copy
import unittest

from lanternhouse import (
    captains, chase, clock, coins, crews, deeds, desk, exact, farewell, gathering, growth, guilds, house, lamps, ledgers,
    masters, meeting, mirror, notation, pairs, papers, planner, quiet, reach, removal, school, standing, trees, twohands,
    undoing, verdicts,
)
from lanternhouse.deeds import Run
from lanternhouse.house import House
from lanternhouse.standing import Standing

from support import plain
from test_form import INTERFACE

DOORS = [[0, 1, "RRB"], [1, 2, "RB"], [2, 0, "RBB"], [2, 3, "RB"]]
HANDS = [["R", 0], ["B", 3], ["R", 1]]
# The lights are R, B, B and R for the live standing, B, B, B and R for the dead one.
LIVE_PLACES = [0, 1, 1, 0]
DEAD_PLACES = [2, 1, 1, 0]

RING = House(4, DOORS)
LIVE = Standing([["R", 0], ["B", 3], ["R", 2]], LIVE_PLACES)
DEAD = Standing([["R", 0], ["B", 3]], DEAD_PLACES)
TREE = House(3, [[0, 1, "RB"], [1, 2, "RB"]])
TREE_DEAD = Standing([["R", 0], ["B", 2]], [1, 0])
WALK = Run([[0, 0], [0, 0]])
# Odd houses: one with a ring, and a tree.
ODD_RING = House(3, [[0, 1, "RB"], [1, 2, "RRRB"], [2, 0, "BR"]])
ODD_HANDS = [["R", 1], ["B", 1], ["B", 1], ["R", 1]]
PAIRED = Standing(ODD_HANDS, [0, 1, 0])
PAIRED_END = Standing(ODD_HANDS, [1, 2, 1])
SPREAD_END = Standing([["R", 2], ["B", 2], ["B", 1], ["R", 1]], [1, 2, 1])
OTHER_TRADES_END = Standing([["B", 2], ["B", 2], ["R", 1], ["R", 1]], [1, 2, 1])
TREE_END = Standing([["R", 0], ["B", 2]], [0, 0])
QUIET_END = Standing([["R", 1], ["B", 2]], [1, 0])
ONE_TRADE = Standing([["R", 0], ["R", 2]], [0, 0])
TOGETHER = Standing([["R", 0], ["B", 0]], [0, 0])
TOGETHER_END = Standing([["R", 1], ["B", 1]], [0, 0])
CHASED = Standing([["R", 0], ["B", 2]], [0, 0])
GUILDS = House(2, [[0, 1, "YXZ"], [1, 0, "XXYXZ"]], trades="XYZ")
TRIO = [["X", 0], ["Y", 0], ["Z", 0]]
CREW = Standing(TRIO + [["Y", 0], ["Y", 1], ["Z", 1], ["X", 1], ["X", 1], ["Z", 1]], [0, 2])
CREW_END = Standing(TRIO + [["Y", 0], ["Y", 1], ["Z", 1], ["X", 1], ["X", 1], ["Z", 1]], [1, 2])
MASTERS = Standing([["R", 1], ["*", 2], ["B", 0], ["*", 0]], [0, 1, 0])
MASTERS_END = Standing([["R", 2], ["*", 1], ["B", 0], ["*", 0]], [0, 0, 0])
VERDICT = verdicts.Verdict(False, side="start", paper=[[0, 0], [2]], fault=["number", 0])


def with_odd_rings(asked, hands, wanted, odd_rings):
    return ledgers.settings_for(asked, hands, wanted, odd_rings=odd_rings)


def winner_of(asked, start, first):
    return captains.winner(asked, start, first=first)


def exchange_with_steps(asked, start, crew, movers, door, steps):
    return guilds.exchange(asked, start, crew, movers, door, steps=steps)


def crews_end():
    """A standing that a run leads to: the crew walks through door 0, and the hand 3 follows it."""
    run = guilds.crew_walk(GUILDS, CREW, [0, 1, 2], 0)
    return deeds.replay(GUILDS, CREW, run + Run([(3, 0)]))


def told(asked, start, rows):
    """Tell all rows to a desk, and return all that it answers and keeps."""
    made = desk.Desk(asked, start)
    return made.tell_all(rows), made.journal(), list(made), made.house, made.standing


# Each function of the interface with arguments that it answers.
CALLS = [
    (house.doors_at, [RING, 2]),
    (house.other_end, [RING, 3, 3]),
    (house.longest_cycle, [RING]),
    (house.is_odd, [RING]),
    (house.is_even, [RING]),
    (house.is_strict, [RING]),
    (house.is_tree, [RING]),
    (house.is_swift, [RING]),
    (standing.fits, [RING, LIVE]),
    (standing.light_of, [RING, LIVE, 1]),
    (standing.last_light_of, [RING, LIVE, 1]),
    (standing.hands_in, [RING, LIVE, 2]),
    (standing.census_of, [RING, LIVE]),
    (deeds.can_do, [RING, LIVE, 0, 0]),
    (deeds.do, [RING, LIVE, 0, 0]),
    (deeds.possible_deeds, [RING, LIVE]),
    (deeds.replay, [RING, LIVE, WALK]),
    (deeds.course, [RING, LIVE, WALK]),
    (deeds.passes_of, [RING, WALK]),
    (mirror.turned_house, [RING]),
    (mirror.turned_standing, [RING, LIVE]),
    (mirror.recoloured_house, [RING]),
    (mirror.recoloured_standing, [RING, LIVE]),
    (notation.format_house, [RING]),
    (notation.format_standing, [LIVE]),
    (notation.format_run, [WALK]),
    (notation.parse_house, ["rooms 2 trades RB\ndoor 0 1 RB"]),
    (notation.parse_standing, ["hands R0 places 1"]),
    (notation.parse_run, ["0:1 1:0"]),
    (reach.spread_of, [RING, LIVE, "R"]),
    (reach.is_live, [RING, LIVE]),
    (reach.is_rooted, [RING, LIVE]),
    (reach.meeting_rooms, [RING, LIVE]),
    (reach.root_rooms, [RING, LIVE]),
    (reach.safe_deeds, [RING, LIVE]),
    (papers.is_paper, [TREE, TREE_DEAD, [[0, 0], [2]]]),
    (papers.least_paper, [TREE, TREE_DEAD]),
    (papers.greatest_paper, [TREE, TREE_DEAD]),
    (papers.join_papers, [[[3, 1, 1], [2]], [[0], [2, 5, 5]]]),
    (papers.meet_papers, [[[3, 1, 1], [2]], [[0, 3], [2, 5, 5]]]),
    (papers.count_papers, [TREE, TREE_DEAD]),
    (papers.closed_rooms, [TREE, TREE_DEAD]),
    (meeting.meeting_distance, [RING, LIVE]),
    (meeting.first_meeting, [RING, LIVE]),
    (lamps.change_lamps, [RING, LIVE, [3, 0, 3]]),
    (lamps.quicken, [RING, DEAD]),
    (lamps.closeness, [RING, DEAD]),
    (lamps.killing_lamps, [RING, DEAD]),
    (trees.tree_doors, [RING]),
    (trees.way_between, [RING, 3, 0]),
    (trees.ring_of, [RING, 2]),
    (trees.room_distance, [RING, 3, 0]),
    (ledgers.ledgers_of, [RING, LIVE]),
    (ledgers.ledger_of, [RING, LIVE, [3, 0, 3]]),
    (ledgers.unlike_room, [RING, LIVE, DEAD]),
    (ledgers.crossings, [TREE, TREE_DEAD, TREE_END]),
    (ledgers.settings_for, [RING, HANDS, [0, 1, 1, 1]]),
    (with_odd_rings, [RING, HANDS, [0, 1, 1, 1], [2, 2]]),
    (pairs.pair_walk, [ODD_RING, PAIRED, [0, 2], 1]),
    (pairs.pair_travel, [ODD_RING, PAIRED, [0, 2], 0]),
    (pairs.even_turn, [ODD_RING, PAIRED, [0, 2], 1, 2]),
    (pairs.carry, [ODD_RING, PAIRED, [0, 2], 1, 1]),
    (gathering.gather, [ODD_RING, SPREAD_END, 0]),
    (gathering.settle, [ODD_RING, PAIRED, PAIRED_END]),
    (planner.plan_bound, [ODD_RING, 4]),
    (planner.plan, [ODD_RING, PAIRED, SPREAD_END]),
    (planner.pieces, [ODD_RING, PAIRED, SPREAD_END]),
    (school.can_learn, [ODD_RING, PAIRED, 1]),
    (school.learn, [ODD_RING, PAIRED, 1]),
    (school.school_plan, [ODD_RING, PAIRED, OTHER_TRADES_END]),
    (quiet.steps_between, [TREE, TREE_DEAD, TREE_END]),
    (quiet.first_fault, [TREE, TREE_DEAD, TREE_END]),
    (quiet.is_fault, [TREE, TREE_DEAD, TREE_END, ["number", 0]]),
    (quiet.quiet_run, [TREE, TREE_END, QUIET_END]),
    (quiet.quiet_run, [TREE, TREE_DEAD, TREE_DEAD]),
    (verdicts.decide, [TREE, TREE_DEAD, TREE_END]),
    (verdicts.decide, [ODD_RING, PAIRED, SPREAD_END]),
    (verdicts.is_right, [TREE, TREE_DEAD, TREE_END, VERDICT]),
    (farewell.farewell, [TREE, ONE_TRADE, "R"]),
    (farewell.farewell_count, [TREE, ONE_TRADE, "R"]),
    (winner_of, [TREE, ONE_TRADE, "B"]),
    (captains.captain_deed, [TREE, ONE_TRADE, "R"]),
    (clock.measure_of, [ODD_RING]),
    (clock.colouring_of, [ODD_RING]),
    (clock.colouring_of, [TREE]),
    (clock.odd_ring, [House(2, [[0, 1, "RB"], [0, 1, "RBBB"]])]),
    (clock.period_of, [ODD_RING]),
    (clock.time_of, [ODD_RING, PAIRED]),
    (coins.sure_amount, [[6, 10, 15]]),
    (coins.pay, [[6, 10, 15, 6], 43]),
    (exact.sure_count, [ODD_RING, PAIRED, SPREAD_END]),
    (exact.exact_plan, [ODD_RING, PAIRED, SPREAD_END, exact.sure_count(ODD_RING, PAIRED, SPREAD_END)]),
    (exact.exact_plan, [ODD_RING, PAIRED, SPREAD_END, 1]),
    (removal.shortest_stretch, ["RRRB", 2, 3, 4]),
    (removal.removal, [TREE, TOGETHER, 2]),
    (undoing.undo_run, [TREE, TOGETHER, 0, 0]),
    (undoing.undo_run, [TREE, ONE_TRADE, 0, 0]),
    (twohands.two_hands_run, [TREE, TOGETHER, TOGETHER_END]),
    (twohands.two_hands_run, [TREE, TOGETHER, TOGETHER]),
    (chase.is_forced, [TREE, CHASED]),
    (chase.chased_pair, [TREE, CHASED]),
    (chase.chase_door, [TREE, CHASED, [0, 1]]),
    (guilds.trade_ledgers, [GUILDS, CREW]),
    (guilds.unlike_trades, [GUILDS, CREW, CREW_END]),
    (guilds.crew_of, [GUILDS, CREW]),
    (guilds.crew_walk, [GUILDS, CREW, [0, 1, 2], 0]),
    (guilds.exchange, [GUILDS, CREW, [0, 1, 2], [3, 4, 3], 0]),
    (guilds.exchange, [GUILDS, CREW, [0, 1, 2], [3], 0]),
    (exchange_with_steps, [GUILDS, CREW, [0, 1, 2], [5, 5], 0, 2]),
    (crews.crew_bound, [GUILDS, 9]),
    (crews.is_canonical, [GUILDS, CREW, 0]),
    (crews.canonical_run, [GUILDS, CREW, 1]),
    (crews.crew_plan, [GUILDS, CREW, CREW_END]),
    (crews.crew_plan, [GUILDS, CREW, crews_end()]),
    (masters.closed_walk, [RING, 2, [1, 3, 1, 2]]),
    (masters.closed_walk, [RING, 2, [1, 2, 1, 2]]),
    (masters.master_bound, [RING, 3]),
    (masters.master_plan, [ODD_RING, MASTERS, MASTERS_END]),
    (masters.master_plan, [ODD_RING, MASTERS, Standing(MASTERS.hands, [0, 3, 0])]),
    (growth.with_door, [RING, LIVE, 0, 3, "RB"]),
    (growth.with_room, [RING, LIVE, 3, "RBB"]),
    (growth.with_hand, [RING, LIVE, "*", 2]),
    (growth.quickening_doors, [TREE, TREE_DEAD]),
    (growth.joined, [RING, LIVE, TREE, TREE_DEAD, 3, 1, "BR"]),
    (told, [RING, LIVE, ["live?", "pass 0 0", "room 1 RB 0", "hand B 0", "undo", "deeds?"]]),
]


def as_tuples(value):
    """Turn lists into tuples, inner ones too."""
    return tuple([as_tuples(part) for part in value]) if isinstance(value, (list, tuple)) else value


def as_lists(value):
    """Turn tuples into lists, inner ones too."""
    return [as_lists(part) for part in value] if isinstance(value, (list, tuple)) else value


def spoil(value):
    """Change every list in the value, the inner ones first."""
    if isinstance(value, (list, tuple)):
        for part in value:
            spoil(part)
    if isinstance(value, list):
        value.reverse()
        value.append("spoilt")


class Answers(unittest.TestCase):

    def test_each_function_of_the_interface_is_tried(self):
        named = {line.split("(")[0] for lines in INTERFACE.values() for line in lines}
        tried = {function.__name__ for function, _ in CALLS}
        # This one is called with its keyword by a function of its own.
        self.assertEqual({name for name in named if name[0].islower()} - tried, {"winner"})

    def test_the_same_answer_after_the_returned_lists_are_changed(self):
        for function, arguments in CALLS:
            answer = function(*arguments)
            wanted = copy.deepcopy(plain(answer))
            spoil(answer)
            self.assertEqual(plain(function(*arguments)), wanted, function.__name__)

    def test_what_is_passed_is_as_it_was(self):
        for function, arguments in CALLS:
            before = copy.deepcopy(plain(arguments))
            spoil(function(*arguments))
            self.assertEqual(plain(arguments), before, function.__name__)

    def test_the_lists_that_are_passed_are_changed_afterwards(self):
        for function, arguments in CALLS:
            passed = [as_lists(argument) for argument in arguments]
            answer = function(*passed)
            wanted = copy.deepcopy(plain(answer))
            spoil(passed)
            self.assertEqual(plain(answer), wanted, function.__name__)
            self.assertEqual(plain(function(*arguments)), wanted, function.__name__)

    def test_lists_and_tuples(self):
        for function, arguments in CALLS:
            wanted = plain(function(*arguments))
            for change in (as_lists, as_tuples):
                changed = [change(argument) for argument in arguments]
                self.assertEqual(plain(function(*changed)), wanted, function.__name__)

    def test_another_house_that_is_asked_in_between(self):
        other = House(4, [[0, 1, "BR"], [1, 2, "BR"], [2, 0, "BBR"], [2, 3, "BR"]])
        there = Standing([["B", 0], ["B", 0], ["R", 1]], [1, 0, 0, 0])
        for function, arguments in CALLS:
            wanted = plain(function(*arguments))
            changed = [other if part is RING else there if part in (LIVE, DEAD) else part for part in arguments]
            if function not in (deeds.replay, deeds.course, deeds.do, told):
                function(*changed)
            deeds.possible_deeds(other, there)
            reach.meeting_rooms(other, there)
            self.assertEqual(plain(function(*arguments)), wanted, function.__name__)

    def test_all_calls_one_after_the_other_and_back(self):
        wanted = [plain(function(*arguments)) for function, arguments in CALLS]
        back = [plain(function(*arguments)) for function, arguments in CALLS[::-1]]
        self.assertEqual(back[::-1], wanted)


class Objects(unittest.TestCase):

    def test_a_house_keeps_copies(self):
        doors = copy.deepcopy(DOORS)
        made = House(4, doors)
        spoil(doors)
        self.assertEqual(made.doors, as_tuples(DOORS))

    def test_a_standing_keeps_copies(self):
        hands, places = copy.deepcopy(HANDS), list(LIVE_PLACES)
        made = Standing(hands, places)
        spoil(hands)
        spoil(places)
        self.assertEqual((made.hands, made.places), (as_tuples(HANDS), tuple(LIVE_PLACES)))

    def test_a_run_keeps_copies(self):
        told = [[0, 1], [2, 3]]
        made = Run(told)
        spoil(told)
        self.assertEqual(made.deeds, ((0, 1), (2, 3)))

    def test_objects_take_lists_and_tuples(self):
        for change in (as_lists, as_tuples):
            self.assertEqual(House(4, change(DOORS)).doors, as_tuples(DOORS))
            made = Standing(change(HANDS), change(LIVE_PLACES))
            self.assertEqual((made.hands, made.places), (as_tuples(HANDS), tuple(LIVE_PLACES)))
            self.assertEqual(Run(change([[0, 1], [2, 3]])).deeds, ((0, 1), (2, 3)))

    def test_creating_changes_nothing(self):
        doors, hands, places, told = copy.deepcopy([DOORS, HANDS, LIVE_PLACES, [[0, 1]]])
        House(4, doors)
        Standing(hands, places)
        Run(told)
        self.assertEqual([doors, hands, places, told], [DOORS, HANDS, LIVE_PLACES, [[0, 1]]])

    def test_sums_and_reverses_change_no_run(self):
        first, second = Run([[0, 1], [2, 3]]), Run([[4, 5]])
        total, back = first + second, -first
        spoil(list(total))
        self.assertEqual(first.deeds, ((0, 1), (2, 3)))
        self.assertEqual(second.deeds, ((4, 5),))
        self.assertEqual(back.deeds, ((2, 3), (0, 1)))


if __name__ == "__main__":
    unittest.main()
