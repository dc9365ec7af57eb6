"""Point 17 over the whole interface: which error is raised where several requirements do not hold.

For each function that has requirements, the table below names them as the
interface does. Many calls with houses, standings and other arguments of all
kinds are made; each has to raise the error of the first requirement, in the
order of point 17, that does not hold, or to be answered if all of them hold.
"""

import random
import unittest

from lanternhouse import (
    captains, chase, clock, crews, deeds, desk, errors, exact, farewell, gathering, growth, guilds, house, lamps, ledgers,
    masters, meeting, mirror, pairs, papers, planner, quiet, reach, removal, school, standing, trees, twohands, undoing,
    verdicts,
)
from lanternhouse.deeds import Run
from lanternhouse.house import House
from lanternhouse.standing import Standing

from support import (
    even_house, odd_house, random_house, random_standing, slow_deeds, slow_live, slow_rooted, slow_tree_doors, swift_house,
)
from test_form import INTERFACE
from test_guilds import slow_crew

# The requirements in the order of point 17. The names with a dash are particular to some functions.
ERRORS = {
    "fits": errors.InvalidStanding,
    "known": errors.UnknownPart,
    "ring-doors": errors.UnknownPart,
    "same hands": errors.UnlikeHands,
    "same-number": errors.UnlikeHands,
    "same-census": errors.UnlikeHands,
    "two trades": errors.WrongTrades,
    "house-trades": errors.WrongTrades,
    "no masters": errors.WrongTrades,
    "a door": errors.NoDoors,
    "even": errors.NotEven,
    "odd": errors.NotOdd,
    "tree": errors.NotTree,
    "strict": errors.NotStrict,
    "swift": errors.NotSwift,
    "enough": errors.TooFewHands,
    "three-hands": errors.TooFewHands,
    "each-trade": errors.TooFewHands,
    "a-pair": errors.NoPair,
    "red-blue": errors.NoPair,
    "two-hands": errors.NoPair,
    "any-pair": errors.NoPair,
    "crew": errors.NoCrew,
    "has-crew": errors.NoCrew,
    "master": errors.NoMaster,
    "together": errors.NotTogether,
    "end-of-door": errors.NotThere,
    "pair-at-door": errors.NotThere,
    "carried": errors.NotThere,
    "chased": errors.NotThere,
    "crew-at-door": errors.NotThere,
    "movers": errors.NotThere,
    "even-steps": errors.BadSteps,
    "odd-steps": errors.BadSteps,
    "few-steps": errors.BadSteps,
    "can": errors.NotPossible,
    "dead": errors.NotDead,
    "live": errors.NotLive,
    "rooted": errors.NotRooted,
    # These are checked after all requirements.
    "lesson": errors.NotPossible,
    "new-door": errors.InvalidHouse,
    "new-place": errors.InvalidStanding,
}

SOLE = ["house", "standing"]
BOTH = ["house", "start", "end"]
PLANNED = ["fits", "same hands", "two trades", "odd", "enough", "live", "rooted"]
QUIET = ["fits", "same hands", "two trades", "tree"]
PARTED = ["fits", "known", "two trades", "tree", "dead"]
PAIRED = ["fits", "known", "two trades", "odd", "a-pair"]
EXACT = ["fits", "same hands", "two trades", "a door", "odd", "enough", "live", "rooted"]

TABLE = [
    (house.doors_at, ["house", "room"], ["known"]),
    (house.other_end, ["house", "door", "room"], ["known", "end-of-door"]),
    (standing.light_of, SOLE + ["door"], ["fits", "known"]),
    (standing.last_light_of, SOLE + ["door"], ["fits", "known"]),
    (standing.hands_in, SOLE + ["room"], ["fits", "known"]),
    (standing.census_of, SOLE, ["fits"]),
    (deeds.can_do, SOLE + ["hand", "door"], ["fits"]),
    (deeds.do, SOLE + ["hand", "door"], ["fits", "known", "can"]),
    (deeds.possible_deeds, SOLE, ["fits"]),
    (deeds.replay, SOLE + ["empty"], ["fits"]),
    (deeds.course, SOLE + ["empty"], ["fits"]),
    (deeds.passes_of, ["house", "run"], ["known"]),
    (mirror.turned_standing, SOLE, ["fits"]),
    (mirror.recoloured_house, ["house"], ["house-trades"]),
    (mirror.recoloured_standing, SOLE, ["fits", "house-trades"]),
    (reach.spread_of, SOLE + ["trade"], ["fits", "known", "two trades"]),
    (reach.is_live, SOLE, ["fits", "two trades"]),
    (reach.is_rooted, SOLE, ["fits", "two trades"]),
    (reach.meeting_rooms, SOLE, ["fits", "two trades"]),
    (reach.root_rooms, SOLE, ["fits", "two trades"]),
    (reach.safe_deeds, SOLE, ["fits", "two trades"]),
    (papers.is_paper, SOLE + ["paper"], ["fits", "known", "two trades"]),
    (papers.least_paper, SOLE, ["fits", "two trades", "dead"]),
    (papers.greatest_paper, SOLE, ["fits", "two trades", "dead"]),
    (papers.count_papers, SOLE, ["fits", "two trades", "tree"]),
    (papers.closed_rooms, SOLE, ["fits", "two trades", "dead"]),
    (meeting.meeting_distance, SOLE, ["fits", "two trades"]),
    (meeting.first_meeting, SOLE, ["fits", "two trades"]),
    (lamps.change_lamps, SOLE + ["doors"], ["fits", "known", "two trades"]),
    (lamps.quicken, SOLE, ["fits", "two trades"]),
    (lamps.closeness, SOLE, ["fits", "two trades"]),
    (lamps.killing_lamps, SOLE, ["fits", "two trades"]),
    (trees.way_between, ["house", "room", "other"], ["known"]),
    (trees.ring_of, ["house", "door"], ["known"]),
    (trees.room_distance, ["house", "room", "other"], ["known"]),
    (ledgers.ledgers_of, SOLE, ["fits"]),
    (ledgers.ledger_of, SOLE + ["rooms"], ["fits", "known"]),
    (ledgers.unlike_room, BOTH, ["fits"]),
    (ledgers.crossings, BOTH, ["fits", "same hands", "tree"]),
    (ledgers.settings_for, ["house", "some_hands", "wanted", "*odd_rings"], ["ring-doors"]),
    (pairs.pair_walk, SOLE + ["pair", "door"], PAIRED + ["pair-at-door"]),
    (pairs.pair_travel, SOLE + ["pair", "room"], PAIRED),
    (pairs.even_turn, SOLE + ["pair", "door", "steps"], PAIRED + ["pair-at-door", "even-steps"]),
    (pairs.carry, SOLE + ["pair", "hand", "door", "*steps"], PAIRED + ["pair-at-door", "carried", "odd-steps"]),
    (gathering.gather, SOLE + ["room"], ["fits", "known", "two trades", "odd", "live"]),
    (gathering.settle, BOTH, ["fits", "same hands", "two trades", "odd", "enough", "red-blue", "together"]),
    (planner.plan, BOTH, PLANNED),
    (planner.pieces, BOTH, PLANNED),
    (school.can_learn, SOLE + ["hand"], ["fits", "known", "two trades"]),
    (school.learn, SOLE + ["hand"], ["fits", "known", "two trades", "lesson"]),
    (school.school_plan, BOTH, ["fits", "same-number", "two trades", "odd", "three-hands", "live", "rooted"]),
    (quiet.steps_between, BOTH, QUIET),
    (quiet.first_fault, BOTH, QUIET),
    (quiet.is_fault, BOTH + ["fault"], ["known"] + QUIET),
    (quiet.quiet_run, BOTH, QUIET),
    (verdicts.is_right, BOTH + ["verdict"], ["fits", "same hands", "two trades", "odd"]),
    (farewell.farewell, SOLE + ["trade"], PARTED),
    (farewell.farewell_count, SOLE + ["trade"], PARTED),
    (captains.winner, SOLE + ["*first"], PARTED),
    (captains.captain_deed, SOLE + ["trade"], PARTED),
    (clock.measure_of, ["house"], ["a door"]),
    (clock.colouring_of, ["house"], ["a door"]),
    (clock.odd_ring, ["house"], ["a door"]),
    (clock.period_of, ["house"], ["a door"]),
    (clock.time_of, SOLE, ["fits", "two trades", "a door", "odd"]),
    (exact.sure_count, BOTH, EXACT),
    (exact.exact_plan, BOTH + ["count"], EXACT),
    (removal.removal, SOLE + ["room"], ["fits", "known", "two trades", "odd", "tree", "red-blue", "together"]),
    (undoing.undo_run, SOLE + ["hand", "door"], ["fits", "known", "two trades", "odd", "tree", "can"]),
    (twohands.two_hands_run, BOTH, QUIET + ["strict", "two-hands", "rooted"]),
    (chase.is_forced, SOLE, ["fits", "two trades", "tree", "swift"]),
    (chase.chased_pair, SOLE, ["fits", "two trades", "tree", "swift"]),
    (chase.chase_door, SOLE + ["pair"], ["fits", "known", "two trades", "tree", "swift", "any-pair", "chased"]),
    (guilds.trade_ledgers, SOLE, ["fits", "no masters", "odd"]),
    (guilds.unlike_trades, BOTH, ["fits", "no masters", "odd"]),
    (guilds.crew_of, SOLE, ["fits", "no masters"]),
    (guilds.crew_walk, SOLE + ["crew", "door"], ["fits", "known", "no masters", "odd", "crew", "crew-at-door"]),
    (
        guilds.exchange, SOLE + ["crew", "movers", "door", "*steps"],
        ["fits", "known", "no masters", "odd", "crew", "crew-at-door", "movers", "few-steps"],
    ),
    (crews.is_canonical, SOLE + ["room"], ["fits", "known", "no masters"]),
    (crews.canonical_run, SOLE + ["room"], ["fits", "known", "no masters", "odd", "each-trade", "has-crew"]),
    (crews.crew_plan, BOTH, ["fits", "same-census", "no masters", "odd", "each-trade", "has-crew"]),
    (masters.closed_walk, ["house", "room", "passes"], ["known"]),
    (masters.master_plan, BOTH, ["fits", "same hands", "even", "master"]),
    (growth.with_door, SOLE + ["room", "other", "cycle", "*place"], ["fits", "known", "new-door", "new-place"]),
    (growth.with_room, SOLE + ["room", "cycle", "*place"], ["fits", "known", "new-door", "new-place"]),
    (growth.with_hand, SOLE + ["new_trade", "room"], ["fits", "known"]),
    (growth.quickening_doors, SOLE, ["fits", "two trades", "dead"]),
    (desk.Desk, SOLE, ["fits", "two trades"]),
]

ROOMS = ("room", "other")
STANDINGS = ("standing", "start", "end")


class Call:
    """The arguments of a call, by their names, and whether the requirements hold for them."""

    def __init__(self, names, parts):
        self.names = [name.lstrip("*") for name in names]
        self.parts = parts
        self.house = parts["house"]
        self.standings = [parts[name] for name in STANDINGS if name in self.names]
        self.first = self.standings[0] if self.standings else None
        self.last = self.standings[-1] if self.standings else None

    def get(self, name):
        return self.parts[name] if name in self.names else None

    def trades(self, at=0):
        return [trade for trade, _ in self.standings[at].hands]

    def rooms(self, hands):
        return {self.first.hands[hand][1] for hand in hands}

    def ends(self):
        return self.house.doors[self.parts["door"]][:2]

    # One method for each requirement that is not plain.

    def fits(self):
        return all(self.fits_one(one) for one in self.standings)

    def fits_one(self, one):
        cycles = [cycle for _, _, cycle in self.house.doors]
        if len(one.places) != len(cycles):
            return False
        if not all(0 <= place < len(cycle) for place, cycle in zip(one.places, cycles)):
            return False
        signs = set(self.house.trades) | {"*"}
        return all(trade in signs and 0 <= room < self.house.rooms for trade, room in one.hands)

    def known(self):
        rooms = [self.get(name) for name in ROOMS if name in self.names]
        rooms += list(self.get("rooms") or [])
        for part in self.get("paper") or []:
            rooms += list(part)
        doors = [self.get("door")] if "door" in self.names else []
        doors += list(self.get("doors") or [])
        doors += [door for _, door in self.get("run") or []]
        doors += [self.get("fault")[1]] if "fault" in self.names else []
        hands = [self.get("hand")] if "hand" in self.names else []
        for name in ("pair", "crew", "movers"):
            hands += list(self.get(name) or [])
        many = len(self.first.hands) if self.standings else 0
        return (
            all(0 <= room < self.house.rooms for room in rooms) and all(0 <= hand < many for hand in hands)
            and all(0 <= door < len(self.house.doors) for door in doors) and self.knows_trades()
        )

    def knows_trades(self):
        letters = list(self.house.trades)
        for name in ("trade", "first"):
            if name in self.names and self.parts[name] not in letters:
                return False
        return "new_trade" not in self.names or self.parts["new_trade"] in letters + ["*"]

    def ring_doors(self):
        ring = set(range(len(self.house.doors))) - set(slow_tree_doors(self.house))
        return set(self.parts["odd_rings"]) <= ring

    def no_masters(self):
        return all("*" not in self.trades(at) for at in range(len(self.standings)))

    def odd(self):
        return all(cycle.count(trade) % 2 == 1 for _, _, cycle in self.house.doors for trade in self.house.trades)

    def tree(self):
        return len(self.house.doors) == self.house.rooms - 1

    def each_trade(self):
        least = 1 if self.house.rooms == 1 else self.house.rooms + 1
        return all(self.trades().count(trade) >= least for trade in self.house.trades)

    def is_pair(self, one_room):
        red, blue = [self.first.hands[hand] for hand in self.parts["pair"]]
        return red[0] == "R" and blue[0] == "B" and (not one_room or red[1] == blue[1])

    def two_hands(self):
        return sorted(self.trades()) == ["B", "R"] and len(self.rooms([0, 1])) == 1

    def is_crew(self):
        hands = [self.first.hands[hand] for hand in self.parts["crew"]]
        return [trade for trade, _ in hands] == list(self.house.trades) and len({room for _, room in hands}) == 1

    def together(self):
        return len({room for one in self.standings for _, room in one.hands}) <= 1

    def carried(self):
        hand = self.parts["hand"]
        return hand not in self.parts["pair"] and self.first.hands[hand][1] in self.ends()

    def chased(self):
        """Look for the room of the blue over the light R, from the room of the red on."""
        red, blue = [self.first.hands[hand][1] for hand in self.parts["pair"]]
        found = {red}
        for _ in range(self.house.rooms):
            for (first, second, cycle), place in zip(self.house.doors, self.first.places):
                if cycle[place] == "R" and found & {first, second}:
                    found |= {first, second}
        return red != blue and blue in found

    def movers(self):
        ends = self.ends()
        return all(hand not in self.parts["crew"] and self.first.hands[hand][1] in ends for hand in self.parts["movers"])

    def lesson(self):
        own = self.first.hands[self.parts["hand"]]
        others = [hand for at, hand in enumerate(self.first.hands) if at != self.parts["hand"]]
        return all((trade, own[1]) in others for trade in "RB")

    def new_door(self):
        ends = self.parts["room"] != self.parts["other"] or "other" not in self.names
        return ends and set(self.parts["cycle"]) == set(self.house.trades)

    def holds(self, name):
        cycles = [cycle for _, _, cycle in self.house.doors]
        checks = {
            "fits": self.fits,
            "known": self.known,
            "ring-doors": self.ring_doors,
            "same hands": lambda: self.trades(0) == self.trades(1),
            "same-number": lambda: len(self.trades(0)) == len(self.trades(1)),
            "same-census": lambda: sorted(self.trades(0)) == sorted(self.trades(1)),
            "two trades": lambda: self.house.trades == "RB" and self.no_masters(),
            "house-trades": lambda: self.house.trades == "RB",
            "no masters": self.no_masters,
            "a door": lambda: cycles != [],
            "even": lambda: all(len(cycle) % 2 == 0 for cycle in cycles),
            "odd": self.odd,
            "tree": self.tree,
            "strict": lambda: all(len(cycle) == 2 for cycle in cycles),
            "swift": lambda: all("BB" not in cycle * 2 for cycle in cycles),
            "enough": lambda: self.tree() or len(self.trades()) >= 3,
            "three-hands": lambda: len(self.trades()) >= 3,
            "each-trade": self.each_trade,
            "a-pair": lambda: self.is_pair(True),
            "any-pair": lambda: self.is_pair(False),
            "red-blue": lambda: {"R", "B"} <= set(self.trades()),
            "two-hands": self.two_hands,
            "crew": self.is_crew,
            "has-crew": lambda: all(slow_crew(self.house, one) is not None for one in self.standings),
            "master": lambda: "*" in self.trades(),
            "together": self.together,
            "end-of-door": lambda: self.parts["room"] in self.ends(),
            "pair-at-door": lambda: self.rooms(self.parts["pair"]) <= set(self.ends()),
            "carried": self.carried,
            "chased": self.chased,
            "crew-at-door": lambda: self.rooms(self.parts["crew"]) <= set(self.ends()),
            "movers": self.movers,
            "even-steps": lambda: self.parts["steps"] % 2 == 0 and self.parts["steps"] >= 0,
            "odd-steps": lambda: self.parts["steps"] % 2 == 1 and self.parts["steps"] >= 1,
            "few-steps": lambda: 0 <= self.parts["steps"] < len(cycles[self.parts["door"]]),
            "can": lambda: (self.parts["hand"], self.parts["door"]) in slow_deeds(self.house, self.first),
            "dead": lambda: not slow_live(self.house, self.first),
            "live": lambda: slow_live(self.house, self.first),
            "rooted": lambda: slow_rooted(self.house, self.last),
            "lesson": self.lesson,
            "new-door": self.new_door,
            "new-place": lambda: 0 <= self.parts["place"] < len(self.parts["cycle"]),
        }
        return checks[name]()


# Arguments of all kinds.

def some_house(rng, requirements):
    """Make a house, in most cases of the kinds that are required."""
    wanted = rng.random() < 0.8
    rooms, rings = rng.randint(1, 4), rng.choice([0, 1, 2])
    if "tree" in requirements and wanted or rng.random() < 0.4:
        rings = 0
    trades = "RB"
    if rng.random() < (0.08 if "two trades" in requirements or "house-trades" in requirements else 0.5):
        trades = rng.choice(["BR", "XYZ", "RBX"])
    if "swift" in requirements and wanted and trades == "RB" and rings == 0:
        return swift_house(rng, rooms)
    if "strict" in requirements and wanted and trades == "RB":
        return odd_house(rng, rooms, rings, 2)
    if "even" in requirements and wanted:
        return even_house(rng, rooms, rings, 6, trades)
    if wanted or rng.random() < 0.5:
        return odd_house(rng, rooms, rings, 7, trades)
    return random_house(rng, rooms, rings, 6, trades)


def some_hands(rng, made, requirements):
    """List trades of hands, in most cases as many as are required."""
    if "each-trade" in requirements:
        least = (1 if made.rooms == 1 else made.rooms + 1) - (rng.random() < 0.15)
        trades = list(made.trades * least)
    elif "two-hands" in requirements and rng.random() < 0.8:
        trades = ["R", "B"]
    elif "crew" in requirements:
        trades = list(made.trades * 2)
    else:
        trades = [rng.choice(made.trades) for _ in range(rng.randint(0, 6))]
    if rng.random() < (0.6 if "master" in requirements else 0.06):
        trades.append("*")
    rng.shuffle(trades)
    return trades


def some_standing(rng, made, trades, requirements):
    """Make a standing with these hands, in most cases one that fits."""
    rooms = [rng.randrange(made.rooms) for _ in trades]
    if rng.random() < 0.5 and {"a-pair", "together", "two-hands", "crew", "has-crew"} & set(requirements):
        rooms = [rng.randrange(made.rooms)] * len(trades)
    hands, places = list(zip(trades, rooms)), list(random_standing(rng, made, 0).places)
    chance = rng.random()
    if chance < 0.02:
        hands.append(("R", rng.choice([-1, made.rooms, 999999999])))
    elif chance < 0.04:
        hands.append((rng.choice(["Q", "r", "", "RB"]), 0))
    elif chance < 0.06:
        places.append(0)
    elif chance < 0.08 and places:
        places[0] = rng.choice([-1, len(made.doors[0][2]), 999999999])
    return Standing(hands, places)


def some_number(rng, count):
    """Choose a number below the count, in most cases."""
    return rng.randrange(count) if count and rng.random() < 0.93 else rng.choice([-1, count, 999999999, -999999999])


def some_crew(rng, made, one, requirements):
    """List hands, in most cases a crew."""
    room = rng.randrange(made.rooms)
    crew = [[hand for hand, own in enumerate(one.hands) if own == (trade, room)] for trade in made.trades]
    if all(crew) and rng.random() < 0.85:
        return [rng.choice(hands) for hands in crew]
    return [some_number(rng, len(one.hands)) for _ in range(rng.choice([0, 2, 3, 3]))]


def some_pair(rng, one, requirements):
    """Choose two hands, in most cases a red and a blue."""
    fitting = [
        (red, blue) for red, (trade, room) in enumerate(one.hands) for blue, (other, behind) in enumerate(one.hands)
        if trade == "R" and other == "B" and (room == behind or "any-pair" in requirements)
    ]
    if fitting and rng.random() < 0.85:
        return rng.choice(fitting)
    return some_number(rng, len(one.hands)), some_number(rng, len(one.hands))


def some_parts(rng, requirements):
    """Make arguments of all names for one house."""
    made = some_house(rng, requirements)
    trades = some_hands(rng, made, requirements)
    one = some_standing(rng, made, trades, requirements)
    others = list(trades)
    if rng.random() < 0.07 or "same-number" in requirements or "same-census" in requirements:
        rng.shuffle(others)
    if rng.random() < 0.05:
        others = some_hands(rng, made, requirements)
    rooms, doors, hands = made.rooms, len(made.doors), len(one.hands)
    movers = [hand for hand in range(hands) if rng.random() < 0.2]
    return {
        "house": made, "standing": one, "start": one, "end": some_standing(rng, made, others, requirements),
        "room": some_number(rng, rooms), "other": some_number(rng, rooms), "door": some_number(rng, doors),
        "hand": some_number(rng, hands), "trade": rng.choice(list(made.trades * 5) + ["", "Q", "*", made.trades]),
        "first": rng.choice(list(made.trades * 5) + ["", "Q", "*", made.trades]),
        "new_trade": rng.choice(list(made.trades * 3) + ["", "Q", "*", made.trades]),
        "rooms": [some_number(rng, rooms) for _ in range(3)], "doors": [some_number(rng, doors) for _ in range(2)],
        "paper": ([some_number(rng, rooms)], [some_number(rng, rooms)]), "empty": Run([]),
        "run": Run([(some_number(rng, 3), some_number(rng, doors)) for _ in range(2)]),
        "pair": some_pair(rng, one, requirements), "crew": some_crew(rng, made, one, requirements),
        "movers": rng.choice([[], movers, movers, [some_number(rng, hands)]]),
        "steps": rng.choice([0, 1, 2, 3, -1, -2, 99, 100]), "count": rng.randint(0, 400),
        "fault": (rng.choice(["colours", "hand", "number", "piece", "x"]), some_number(rng, doors)),
        "verdict": verdicts.Verdict(True, run=Run([])), "some_hands": [], "wanted": [0] * rooms,
        "odd_rings": [some_number(rng, doors)] if rng.random() < 0.7 else [], "passes": [2] * doors,
        "cycle": rng.choice([made.trades, made.trades, made.trades * 2, "R", "", "RBQ"]), "place": rng.choice([0, 0, 1, -1, 3]),
    }


class Order(unittest.TestCase):

    def error_of(self, function, names, parts):
        arguments = [parts[name] for name in names if name[0] != "*"]
        keywords = {name[1:]: parts[name[1:]] for name in names if name[0] == "*"}
        try:
            function(*arguments, **keywords)
        except Exception as raised:
            return type(raised)
        return None

    def wanted_error(self, names, requirements, parts):
        call = Call(names, parts)
        for name, error in ERRORS.items():
            if name in requirements and not call.holds(name):
                return error
        return None

    def check_function(self, rng, function, names, requirements):
        seen = set()
        wanted = {ERRORS[name] for name in requirements} | {None}
        tries = 0
        while tries < 150 or (seen != wanted and tries < 6000):
            tries += 1
            parts = some_parts(rng, requirements)
            error = self.wanted_error(names, requirements, parts)
            seen.add(error)
            told = [parts[name.lstrip("*")] for name in names]
            self.assertIs(self.error_of(function, names, parts), error, (function.__name__, told))
        self.assertEqual(seen, wanted, function.__name__)

    def test_every_function(self):
        rng = random.Random(480)
        for function, names, requirements in TABLE:
            self.check_function(rng, function, names, requirements)

    def test_deciding(self):
        """In a house that is no tree, the requirements of a plan have to hold, too."""
        rng = random.Random(481)
        seen = set()
        for _ in range(2500):
            parts = some_parts(rng, PLANNED)
            made = parts["house"]
            requirements = ["fits", "same hands", "two trades", "odd"]
            if len(made.doors) > made.rooms - 1:
                requirements = requirements + ["three-hands", "live", "rooted"]
            error = self.wanted_error(BOTH, requirements, parts)
            seen.add(error)
            self.assertIs(self.error_of(verdicts.decide, BOTH, parts), error)
        self.assertEqual(seen, {ERRORS[name] for name in requirements + ["three-hands", "live", "rooted"]} | {None})

    def test_joining(self):
        rng = random.Random(482)
        seen = set()
        for _ in range(1500):
            one, two = some_parts(rng, []), some_parts(rng, [])
            room, other = one["room"], two["room"]
            cycle, place = one["cycle"], one["place"]
            calls = [Call(SOLE + ["room"], parts) for parts in (one, two)]
            error = None
            if not all(call.fits() for call in calls):
                error = errors.InvalidStanding
            elif not all(call.known() for call in calls):
                error = errors.UnknownPart
            elif one["house"].trades != two["house"].trades or set(cycle) != set(one["house"].trades):
                error = errors.InvalidHouse
            elif not 0 <= place < len(cycle):
                error = errors.InvalidStanding
            seen.add(error)
            parts = {
                "a": one["house"], "b": one["standing"], "c": two["house"], "d": two["standing"], "e": room, "f": other,
                "g": cycle, "place": place,
            }
            self.assertIs(self.error_of(growth.joined, ["a", "b", "c", "d", "e", "f", "g", "*place"], parts), error)
        self.assertEqual(seen, {errors.InvalidStanding, errors.UnknownPart, errors.InvalidHouse, None})


class Interface(unittest.TestCase):

    def test_the_whole_interface_is_tried(self):
        """Each function of the interface stands in the table, but for those without requirements."""
        free = {
            "longest_cycle", "is_odd", "is_even", "is_strict", "is_tree", "is_swift", "fits", "turned_house", "format_house",
            "format_standing", "format_run", "parse_house", "parse_standing", "parse_run", "join_papers", "meet_papers",
            "tree_doors", "plan_bound", "crew_bound", "master_bound", "sure_amount", "pay", "shortest_stretch",
        }
        tried = {function.__name__ for function, _, _ in TABLE} | {"decide", "joined"}
        named = {line.split("(")[0] for lines in INTERFACE.values() for line in lines}
        self.assertEqual({name for name in named if name[0].islower()} - tried, free)


if __name__ == "__main__":
    unittest.main()
