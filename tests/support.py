"""Help for the tests: houses and standings to try, and slow answers to compare with.

The random numbers have fixed seeds, so every run of the tests tries the same.
The slow answers follow the words of the document as directly as possible, and
use nothing of the program but the attributes of its objects.
"""

import itertools
import random

from lanternhouse.deeds import Run
from lanternhouse.house import House
from lanternhouse.standing import Standing
from lanternhouse.verdicts import Verdict


def plain(value):
    """Turn the objects of the program into plain values that == compares."""
    if isinstance(value, House):
        return ("house", value.rooms, value.doors, value.trades)
    if isinstance(value, Standing):
        return ("standing", value.hands, value.places)
    if isinstance(value, Run):
        return ("run", value.deeds)
    if isinstance(value, Verdict):
        parts = (value.reached, value.run, value.room, value.side, value.paper, value.fault)
        return ("verdict", plain(parts))
    if isinstance(value, (list, tuple)):
        return type(value)([plain(part) for part in value])
    return value


# Houses and standings to try.

def random_cycle(rng, longest, trades="RB"):
    letters = list(trades) + [rng.choice(trades) for _ in range(rng.randint(0, longest - len(trades)))]
    rng.shuffle(letters)
    return "".join(letters)


def random_house(rng, rooms, more_doors=0, longest=4, trades="RB"):
    """Make a tree of the rooms, and so many more doors than a tree has."""
    ends = [(rng.randrange(room), room) for room in range(1, rooms)]
    if rooms > 1:
        ends += [tuple(rng.sample(range(rooms), 2)) for _ in range(more_doors)]
    rng.shuffle(ends)
    doors = []
    for first, second in ends:
        if rng.random() < 0.5:
            first, second = second, first
        doors.append((first, second, random_cycle(rng, longest, trades)))
    return House(rooms, doors, trades=trades)


def random_standing(rng, house, hands, signs=None):
    signs = house.trades if signs is None else signs
    return Standing(
        [(rng.choice(signs), rng.randrange(house.rooms)) for _ in range(hands)],
        [rng.randrange(len(cycle)) for _, _, cycle in house.doors],
    )


def samples(seed, count, most_rooms=4, most_hands=4, more_doors=2, longest=4, trades="RB", signs=None):
    """Make a list of pairs of a house and a standing that fits it."""
    rng = random.Random(seed)
    made = []
    for _ in range(count):
        rooms = rng.randint(1, most_rooms)
        house = random_house(rng, rooms, rng.randint(0, more_doors), longest, trades)
        made.append((house, random_standing(rng, house, rng.randint(0, most_hands), signs)))
    return made


def tree_samples(seed, count, **limits):
    return samples(seed, count, more_doors=0, **limits)


def every_standing(house, trades):
    """Make all standings of the house with hands of these trades."""
    rooms = itertools.product(range(house.rooms), repeat=len(trades))
    places = list(itertools.product(*[range(len(cycle)) for _, _, cycle in house.doors]))
    return [Standing(list(zip(trades, own)), list(at)) for own in rooms for at in places]


# Slow answers.

def slow_lights(house, standing):
    return [cycle[place] for (_, _, cycle), place in zip(house.doors, standing.places)]


def slow_last_lights(house, standing):
    return [
        cycle[len(cycle) - 1 if place == 0 else place - 1]
        for (_, _, cycle), place in zip(house.doors, standing.places)
    ]


def slow_walk(house, lights, light, rooms):
    """Find the rooms that can be walked to over the light, in rounds over all doors."""
    found = set(rooms)
    for _ in range(house.rooms):
        for (first, second, _), own in zip(house.doors, lights):
            if own == light and (first in found or second in found):
                found |= {first, second}
    return found


def slow_spread(house, standing, lights, trade):
    return slow_walk(house, lights, trade, [room for own, room in standing.hands if own == trade])


def slow_common_rooms(house, standing, lights):
    return slow_spread(house, standing, lights, "R") & slow_spread(house, standing, lights, "B")


def slow_live(house, standing):
    return bool(slow_common_rooms(house, standing, slow_lights(house, standing)))


def slow_rooted(house, standing):
    return bool(slow_common_rooms(house, standing, slow_last_lights(house, standing)))


def slow_deeds(house, standing):
    """List the possible deeds as point 9 says."""
    lights = slow_lights(house, standing)
    return [
        (hand, door)
        for hand, (trade, room) in enumerate(standing.hands)
        for door, (first, second, _) in enumerate(house.doors)
        if room in (first, second) and trade in ("*", lights[door])
    ]


def slow_do(house, standing, hand, door):
    """Do a possible deed as point 9 says."""
    first, second, cycle = house.doors[door]
    hands, places = list(standing.hands), list(standing.places)
    trade, room = hands[hand]
    hands[hand] = (trade, second if room == first else first)
    places[door] = 0 if places[door] == len(cycle) - 1 else places[door] + 1
    return Standing(hands, places)


def mixed(standing):
    """Tell whether a red and a blue stand in one room."""
    reds = {room for trade, room in standing.hands if trade == "R"}
    return bool(reds & {room for trade, room in standing.hands if trade == "B"})


def slow_reached(house, standing):
    """Return a dict from the plain standings that can be reached to their least numbers of deeds."""
    steps = {plain(standing): 0}
    newest = [standing]
    while newest:
        found = []
        for old in newest:
            for hand, door in slow_deeds(house, old):
                new = slow_do(house, old, hand, door)
                if plain(new) not in steps:
                    steps[plain(new)] = steps[plain(old)] + 1
                    found.append(new)
        newest = found
    return steps


def slow_meeting_distance(house, standing):
    """Search all standings that can be reached, the nearest first."""
    steps = 0
    seen = {plain(standing)}
    newest = [standing]
    while newest:
        if any(mixed(old) for old in newest):
            return steps
        found = []
        for old in newest:
            for hand, door in slow_deeds(house, old):
                new = slow_do(house, old, hand, door)
                if plain(new) not in seen:
                    seen.add(plain(new))
                    found.append(new)
        newest = found
        steps += 1
    return None


def slow_is_paper(house, standing, reds, blues):
    """Check each condition of point 23."""
    lights = slow_lights(house, standing)
    if any(room not in reds for trade, room in standing.hands if trade == "R"):
        return False
    if any(room not in blues for trade, room in standing.hands if trade == "B"):
        return False
    if set(reds) & set(blues):
        return False
    for (first, second, _), light in zip(house.doors, lights):
        rooms = reds if light == "R" else blues
        if (first in rooms) != (second in rooms):
            return False
    return True


def slow_papers(house, standing):
    """List all papers, by trying all pairs of sets."""
    rooms = range(house.rooms)
    subsets = [list(part) for size in range(house.rooms + 1) for part in itertools.combinations(rooms, size)]
    return [(reds, blues) for reds in subsets for blues in subsets if slow_is_paper(house, standing, reds, blues)]


def slow_change(house, standing, doors):
    """Change the lamps as point 30 says."""
    places = list(standing.places)
    for door in set(doors):
        cycle = house.doors[door][2]
        turned = cycle[places[door]:] + cycle[:places[door]]
        steps = min(turned.index(letter) for letter in "RB" if letter != turned[0])
        places[door] = (places[door] + steps) % len(cycle)
    return Standing(standing.hands, places)


def door_sets(house):
    """List all sets of doors, the small ones first."""
    doors = range(len(house.doors))
    return [list(part) for size in range(len(house.doors) + 1) for part in itertools.combinations(doors, size)]


def slow_distance(house, standing):
    """Return the least number of doors of any kind between a red and a blue, or None."""
    found = {room for trade, room in standing.hands if trade == "R"}
    blues = {room for trade, room in standing.hands if trade == "B"}
    if not found or not blues:
        return None
    steps = 0
    while not found & blues:
        found |= {
            room
            for first, second, _ in house.doors
            if first in found or second in found
            for room in (first, second)
        }
        steps += 1
    return steps


# Odd houses.

def odd_cycle(rng, longest, trades="RB"):
    """Make a cycle with an odd number of letters of each trade."""
    pairs = [rng.choice([trade * 2 for trade in trades]) for _ in range(rng.randint(0, (longest - len(trades)) // 2))]
    letters = list(trades + "".join(pairs))
    rng.shuffle(letters)
    return "".join(letters)


def odd_house(rng, rooms, more_doors=0, longest=4, trades="RB"):
    house = random_house(rng, rooms, more_doors)
    doors = [(first, second, odd_cycle(rng, longest, trades)) for first, second, _ in house.doors]
    return House(rooms, doors, trades=trades)


def odd_samples(seed, count, most_rooms=4, hands=(2, 4), more_doors=2, longest=4):
    """Make a list of pairs of an odd house and a standing that fits it."""
    rng = random.Random(seed)
    made = []
    for _ in range(count):
        house = odd_house(rng, rng.randint(1, most_rooms), rng.randint(0, more_doors), longest)
        made.append((house, random_standing(rng, house, rng.randint(*hands))))
    return made


def even_house(rng, rooms, more_doors=0, longest=6, trades="RB"):
    """Make a house with cycles of an even number of letters, at most the longest, which is even."""
    house = random_house(rng, rooms, more_doors)
    doors = []
    for first, second, _ in house.doors:
        cycle = random_cycle(rng, longest, trades)
        doors.append((first, second, cycle + rng.choice(trades) * (len(cycle) % 2)))
    return House(rooms, doors, trades=trades)


def swift_house(rng, rooms, longest=4):
    """Make a tree in whose cycles no B follows a B, not even round the end."""
    house = random_house(rng, rooms)
    doors = []
    for first, second, _ in house.doors:
        cycle = random_cycle(rng, longest)
        while "BB" in cycle * 2:
            cycle = random_cycle(rng, longest)
        doors.append((first, second, cycle))
    return House(rooms, doors)


def some_trades(rng):
    """Choose two to five trades in any order."""
    return "".join(rng.sample("RBAXYZ", rng.randint(2, 5)))


def another_standing(rng, house, standing):
    """Make a standing with the same hands."""
    other = random_standing(rng, house, 0)
    return Standing([(trade, rng.randrange(house.rooms)) for trade, _ in standing.hands], other.places)


def level(house, start, end):
    """Return the end with places changed such that all ledgers are those of the start, or None.

    All cycles of the house have an even number of letters.
    """
    places = list(end.places)
    for _ in range(house.rooms):
        unlike = [
            room for room in range(house.rooms)
            if slow_ledger(house, start, [room]) != slow_ledger(house, Standing(end.hands, places), [room])
        ]
        if not unlike:
            return Standing(end.hands, places)
        if len(unlike) == 1:
            return None
        for door in slow_way(house, unlike[0], unlike[1]):
            places[door] = (places[door] + 1) % len(house.doors[door][2])
    return None


def plans_to_make(seed, count, most_rooms=4, hands=(2, 5), more_doors=2, longest=6):
    """Make triples of an odd house, a live start and a rooted end with the same hands and ledgers."""
    rng = random.Random(seed)
    made = []
    while len(made) < count:
        house = odd_house(rng, rng.randint(1, most_rooms), rng.randint(0, more_doors), longest)
        start = random_standing(rng, house, rng.randint(*hands))
        end = level(house, start, another_standing(rng, house, start))
        enough = len(house.doors) == house.rooms - 1 or len(start.hands) > 2
        if enough and end is not None and slow_live(house, start) and slow_rooted(house, end):
            made.append((house, start, end))
    return made


# Slow answers about trees, ledgers and runs.

def slow_tree_doors(house):
    """Go through the doors as point 33 says, with a search for a chain each time."""
    tree = []
    for door, (first, second, _) in enumerate(house.doors):
        found = {first}
        for _ in range(house.rooms):
            for own in tree:
                ends = set(house.doors[own][:2])
                if ends & found:
                    found |= ends
        if second not in found:
            tree.append(door)
    return tree


def slow_way(house, first, last, used=()):
    """Find the way from room to room by trying all chains of tree doors without a door twice."""
    if first == last:
        return []
    for door in slow_tree_doors(house):
        ends = house.doors[door][:2]
        if door not in used and first in ends:
            behind = ends[0] if first == ends[1] else ends[1]
            way = slow_way(house, behind, last, (*used, door))
            if way is not None:
                return [door] + way
    return None


def slow_ledger(house, standing, rooms):
    """Count as point 35 says."""
    rooms = set(rooms)
    total = sum(1 for _, room in standing.hands if room in rooms)
    for (first, second, _), place in zip(house.doors, standing.places):
        if (first in rooms) != (second in rooms):
            total += place
    return total % 2


def slow_replay(house, standing, run):
    """Do the deeds one by one, and fail if one of them is not possible."""
    for hand, door in run:
        assert (hand, door) in slow_deeds(house, standing), (hand, door)
        standing = slow_do(house, standing, hand, door)
    return standing


def slow_bound(house, hands):
    """The plan bound of point 43."""
    longest = max([len(cycle) for _, _, cycle in house.doors], default=0)
    rooms, doors = house.rooms, len(house.doors)
    return 2 * hands * (rooms - 1) * (4 * longest + 1) + 4 * doors * rooms * (2 * longest + 1)


def slow_turned(house, standing):
    """Turn back the house and the standing as point 12 says."""
    doors = [(first, second, "".join(reversed(cycle))) for first, second, cycle in house.doors]
    places = [
        0 if place == 0 else len(cycle) - place
        for (_, _, cycle), place in zip(house.doors, standing.places)
    ]
    return House(house.rooms, doors, trades=house.trades), Standing(standing.hands, places)


def slow_wander(rng, house, standing, count):
    """Do so many random deeds, as far as any are possible."""
    for _ in range(count):
        deeds = slow_deeds(house, standing)
        if deeds:
            standing = slow_do(house, standing, *rng.choice(deeds))
    return standing


def slow_farewell(house, standing, trade):
    """Try all runs that move hands of this trade only."""
    known = {}

    def longest(now):
        if plain(now) not in known:
            known[plain(now)] = max([
                1 + longest(slow_do(house, now, hand, door))
                for hand, door in slow_deeds(house, now)
                if now.hands[hand][0] == trade
            ], default=0)
        return known[plain(now)]

    return longest(standing)


def parted_trades(seed, count, most_rooms=3, most_hands=2):
    """Make trees with reds in one part and blues in another part, and a closed room between.

    The standings are dead, and in most of them both can do several deeds.
    """
    rng = random.Random(seed)
    made = []
    for _ in range(count):
        reds, blues = rng.randint(1, most_rooms), rng.randint(1, most_rooms)
        doors = [(rng.randrange(room), room, "R" * rng.randint(1, 4) + "B") for room in range(1, reds)]
        doors += [
            (reds + 1 + rng.randrange(room), reds + 1 + room, "B" * rng.randint(1, 4) + "R")
            for room in range(1, blues)
        ]
        doors += [(rng.randrange(reds), reds, "BR"), (reds, reds + 1 + rng.randrange(blues), "RB")]
        hands = [("R", rng.randrange(reds)) for _ in range(rng.randint(1, most_hands))]
        hands += [("B", reds + 1 + rng.randrange(blues)) for _ in range(rng.randint(1, most_hands))]
        rng.shuffle(hands)
        made.append((House(reds + 1 + blues, doors), Standing(hands, [0] * len(doors))))
    return made
