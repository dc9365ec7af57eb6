"""Exact plans: runs from a live standing to a rooted one with a given number of deeds.

A loop is a list of doors that leads a pair back to where it begins: through a
door there and back, or along the ring of a ring door. The plan is made longer
at the moment when all hands stand in one room. There a pair goes through all
tree doors and back, and along loops that begin at the rooms on this tour; the
numbers of deeds of the loops are the coins with which the count is paid.
"""

from lanternhouse.clock import period_of, time_of
from lanternhouse.coins import pay, sure_amount
from lanternhouse.deeds import Run
from lanternhouse.house import cycles_of
from lanternhouse.ledgers import unlike_room
from lanternhouse.pairs import walk_deeds
from lanternhouse.planner import need_plan_parts, plan_halves
from lanternhouse.requirements import BLUE, RED, need_a_door, need_like_standings
from lanternhouse.standing import trades_of
from lanternhouse.trails import run_of
from lanternhouse.trees import ring_of, tree_doors
from lanternhouse.walks import closed_doors


def loops_of(house):
    """Return the list of the loops of the house."""
    rings = [ring_of(house, door) for door in range(len(house.doors))]
    return [[door, door] for door in range(len(house.doors))] + [ring for ring in rings if len(ring) > 0]


def letters_along(house, doors):
    """Return the number of deeds with which a pair walks through the listed doors."""
    cycles = cycles_of(house)
    return sum([len(cycles[door]) for door in doors])


def coins_of(house):
    """Return the list of the coins, one for each loop."""
    return [letters_along(house, loop) for loop in loops_of(house)]


def deeds_without_loops(house, halves):
    """Return the number of deeds of the plan and of the tour through all tree doors."""
    return sum([len(half) for half in halves]) + 2 * letters_along(house, tree_doors(house))


def halves_of(house, start, end):
    """Return two runs that make up a plan, and the standing between them, with all hands in one room."""
    first, pieces = plan_halves(house, start, end)
    return (run_of(first.pieces), run_of(pieces)), first.standing


def tour_deeds(house, standing, counts):
    """Return the deeds of the tour of a pair, with each loop as often as it is counted."""
    trades = trades_of(standing)
    pair = (trades.index(RED), trades.index(BLUE))
    tree = tree_doors(house)
    passes = [2 if door in tree else 0 for door in range(len(house.doors))]
    for loop, count in zip(loops_of(house), counts):
        for door in loop:
            passes[door] += count
    _, room = standing.hands[pair[0]]
    # Each walk of the pair leaves the place of its door as it is.
    walks = [walk_deeds(house, standing, pair, door) for door in range(len(house.doors))]
    return [deed for door in closed_doors(house, room, passes) for deed in walks[door]]


def need_exact_parts(house, start, end):
    """Check all requirements of an exact plan."""
    need_like_standings(house, start, end)
    need_a_door(house)
    need_plan_parts(house, start, end)


def sure_count(house, start, end):
    """Return the sure count, or None if not all ledgers are equal."""
    need_exact_parts(house, start, end)
    if unlike_room(house, start, end) is not None:
        return None
    halves, _ = halves_of(house, start, end)
    return deeds_without_loops(house, halves) + sure_amount(coins_of(house))


def exact_plan(house, start, end, count):
    """Return a pair: ("room", room), ("clock", remainder), ("early", sure count) or ("run", run)."""
    need_exact_parts(house, start, end)
    room = unlike_room(house, start, end)
    if room is not None:
        return "room", room
    remainder = (time_of(house, end) - time_of(house, start)) % period_of(house)
    if count % period_of(house) != remainder:
        return "clock", remainder
    halves, together = halves_of(house, start, end)
    coins = coins_of(house)
    fixed = deeds_without_loops(house, halves)
    if count < fixed + sure_amount(coins):
        return "early", fixed + sure_amount(coins)
    tour = Run(tour_deeds(house, together, pay(coins, count - fixed)))
    return "run", halves[0] + tour + halves[1]
