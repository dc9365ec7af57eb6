"""Quiet runs, which pass each door by one light only, and the faults that forbid them."""

from lanternhouse.deeds import Run
from lanternhouse.house import cycles_of, need_doors
from lanternhouse.ledgers import crossing_hands
from lanternhouse.reach import walked_to
from lanternhouse.requirements import need_like_standings, need_tree
from lanternhouse.standing import need_fits
from lanternhouse.trees import way_between
from lanternhouse.ways import far_end, neighbours_of


def need_like_standings_of_tree(house, start, end):
    """Check the requirements that the functions of this file share."""
    need_like_standings(house, start, end)
    need_tree(house)


def steps_of(house, start, end):
    """Return the list of the steps of the doors."""
    return [
        (last - first) % len(cycle)
        for cycle, first, last in zip(cycles_of(house), start.places, end.places)
    ]


def stretches_of(house, start, end):
    """Return the list of the stretches of the doors, as strings."""
    return [
        (cycle[place:] + cycle[:place])[:steps]
        for cycle, place, steps in zip(cycles_of(house), start.places, steps_of(house, start, end))
    ]


def only_letters(stretches):
    """Return for each stretch its letter if it has only one letter, otherwise the empty string."""
    return [stretch[0] if len(set(stretch)) == 1 else "" for stretch in stretches]


def has_piece_fault(house, standing, letters, door):
    """Tell whether no hand of its letter stands, in the standing, at the piece of the door."""
    letter = letters[door]
    if letter == "":
        return False
    first, _, _ = house.doors[door]
    rooms = walked_to(house, letters, letter, [first])
    return not any([(letter, room) in standing.hands for room in rooms])


def faults_of(house, start, end):
    """Return a dict from the names of faults, in their order, to the ascending lists of their doors."""
    stretches = stretches_of(house, start, end)
    letters = only_letters(stretches)
    trades = [[start.hands[hand][0] for hand in hands] for hands in crossing_hands(house, start, end)]
    doors = range(len(house.doors))
    return {
        "colours": [door for door in doors if len(set(stretches[door])) > 1],
        "hand": [
            door for door in doors
            if letters[door] != "" and trades[door].count(letters[door]) < len(trades[door])
        ],
        "number": [door for door in doors if is_wrong_number(len(trades[door]), len(stretches[door]))],
        "piece": [door for door in doors if has_piece_fault(house, start, letters, door)],
    }


def is_wrong_number(crossing, steps):
    """Tell whether so many crossing hands cannot make so many steps."""
    return crossing > steps or (steps - crossing) % 2 == 1


def least_fault(house, start, end):
    """Return the first fault, or None."""
    for name, doors in faults_of(house, start, end).items():
        if len(doors) > 0:
            return name, doors[0]
    return None


def quiet_deeds(house, start, end):
    """Return the deeds of a quiet run where there is no fault."""
    around = neighbours_of(house)
    letters = only_letters(stretches_of(house, start, end))
    crossing = crossing_hands(house, start, end)
    extra = [steps - len(hands) for steps, hands in zip(steps_of(house, start, end), crossing)]
    deeds = []
    for hand, (trade, room) in enumerate(start.hands):
        ahead = way_between(house, room, end.hands[hand][1])[::-1]
        # A hand that comes by takes the steps that are left at a door of its
        # trade. They are even, so it comes back and can go on along its way.
        while True:
            for door, _ in around[room]:
                if letters[door] == trade:
                    ahead.extend([door] * extra[door])
                    extra[door] = 0
            if len(ahead) == 0:
                break
            door = ahead.pop()
            deeds.append((hand, door))
            room = far_end(house, door, room)
    return deeds


def steps_between(house, start, end):
    """Return the list of the steps of the doors."""
    need_like_standings_of_tree(house, start, end)
    return steps_of(house, start, end)


def first_fault(house, start, end):
    """Return the first fault, a tuple (name, door), or None."""
    need_like_standings_of_tree(house, start, end)
    return least_fault(house, start, end)


def is_fault(house, start, end, fault):
    """Tell whether the tuple (name, door) is a fault."""
    name, door = fault
    need_fits(house, start)
    need_fits(house, end)
    need_doors(house, [door])
    need_like_standings_of_tree(house, start, end)
    return door in faults_of(house, start, end).get(name, [])


def quiet_run(house, start, end):
    """Return a quiet run, or None if there is none."""
    need_like_standings_of_tree(house, start, end)
    if least_fault(house, start, end) is not None:
        return None
    return Run(quiet_deeds(house, start, end))
