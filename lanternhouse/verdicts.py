"""Verdicts: whether some run leads from a standing to another one, and why."""

from lanternhouse.deeds import replay
from lanternhouse.errors import BadDeed
from lanternhouse.house import has_door, has_room, is_tree
from lanternhouse.ledgers import ledgers_of
from lanternhouse.mirror import turned_house, turned_standing
from lanternhouse.papers import is_paper, least_paper
from lanternhouse.planner import plan
from lanternhouse.quiet import first_fault, is_fault, quiet_run
from lanternhouse.reach import is_live, is_rooted
from lanternhouse.requirements import need_like_standings, need_odd

START = "start"
END = "end"


class Verdict:
    """What is said of the way from a standing to another one."""

    def __init__(self, reached, *, run=None, room=None, side=None, paper=None, fault=None):
        self.reached = reached
        self.run = run
        self.room = room
        self.side = side
        self.paper = None if paper is None else tuple([list(rooms) for rooms in paper])
        self.fault = None if fault is None else tuple(fault)


def planned(house, start, end):
    """Return the verdict with a plan, or by the least room whose ledgers differ."""
    run, room = plan(house, start, end)
    if run is None:
        return Verdict(False, room=room)
    return Verdict(True, run=run)


def side_of(house, start, end, side):
    """Return the house and the standing whose papers count for the side."""
    if side == START:
        return house, start
    return turned_house(house), turned_standing(house, end)


def by_side(house, start, end, side):
    """Return the verdict by the side, with the least paper and the first fault."""
    its_house, standing = side_of(house, start, end, side)
    paper, fault = least_paper(its_house, standing), first_fault(house, start, end)
    return Verdict(False, side=side, paper=paper, fault=fault)


def decide(house, start, end):
    """Return the verdict on the two standings."""
    need_like_standings(house, start, end)
    need_odd(house)
    if not is_tree(house):
        return planned(house, start, end)
    run = quiet_run(house, start, end)
    if run is not None:
        return Verdict(True, run=run)
    if not is_live(house, start):
        return by_side(house, start, end, START)
    if not is_rooted(house, end):
        return by_side(house, start, end, END)
    return planned(house, start, end)


def leads_to(house, start, end, run):
    """Tell whether the run leads from the start to the end."""
    try:
        last = replay(house, start, run)
    except BadDeed:
        return False
    return last.hands == end.hands and last.places == end.places


def is_unlike(house, start, end, room):
    """Tell whether there is such a room, and its ledgers differ."""
    if not has_room(house, room):
        return False
    return ledgers_of(house, start)[room] != ledgers_of(house, end)[room]


def is_right_paper(house, start, end, side, paper):
    """Tell whether there is such a side, and the paper is one of its standing."""
    if side not in (START, END):
        return False
    if not all([has_room(house, room) for rooms in paper for room in rooms]):
        return False
    its_house, standing = side_of(house, start, end, side)
    return is_paper(its_house, standing, paper)


def is_right_fault(house, start, end, fault):
    """Tell whether there is such a door and such a fault."""
    _, door = fault
    return has_door(house, door) and is_fault(house, start, end, fault)


def are_none(values):
    """Tell whether all the values are None."""
    return all([value is None for value in values])


def is_right(house, start, end, verdict):
    """Tell whether the verdict has the right form, and what it says is true."""
    need_like_standings(house, start, end)
    need_odd(house)
    run, room = verdict.run, verdict.room
    by_its_side = [verdict.side, verdict.paper, verdict.fault]
    if verdict.reached:
        return run is not None and are_none([room] + by_its_side) and leads_to(house, start, end, run)
    if run is not None:
        return False
    if room is not None:
        return are_none(by_its_side) and is_unlike(house, start, end, room)
    if not is_tree(house) or any([value is None for value in by_its_side]):
        return False
    if not is_right_paper(house, start, end, verdict.side, verdict.paper):
        return False
    return is_right_fault(house, start, end, verdict.fault)
