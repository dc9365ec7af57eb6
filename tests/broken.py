"""Requirements that are broken on purpose, alone and two at the same time.

A call is described by a dict of its parts. What breaks a requirement is a
function that changes such a dict. They are listed with their errors in the
order of point 17, so of two that are broken the first one has to be told.
"""

import copy
import itertools

from lanternhouse.house import House
from lanternhouse.standing import Standing


def parts_of(house, **more):
    """Describe a house and further arguments, with standings as lists [hands, places]."""
    parts = {"rooms": house.rooms, "doors": [list(door) for door in house.doors], "trades": house.trades}
    for name, value in more.items():
        if isinstance(value, Standing):
            value = [list(value.hands), list(value.places)]
        parts[name] = value
    return parts


def arguments_of(parts, names):
    """Build the house and the arguments with these names."""
    house = House(parts["rooms"], parts["doors"], trades=parts["trades"])
    built = [house]
    for name in names:
        value = parts[name]
        built.append(Standing(*value) if name in STANDINGS else value)
    return built


STANDINGS = ("standing", "start", "end")


def check_requirements(test, function, names, parts, breakers):
    """Check that the good call is answered, and the errors of one and of two broken requirements.

    Names that begin with a star are passed by keyword.
    """
    def call(changed):
        plain_names = [name for name in names if name[0] != "*"]
        keywords = {name[1:]: changed[name[1:]] for name in names if name[0] == "*"}
        return function(*arguments_of(changed, plain_names), **keywords)

    call(parts)
    for error, change in breakers:
        changed = copy.deepcopy(parts)
        change(changed)
        check_error(test, error, call, changed, [change])
    for (first_error, first), (_, second) in itertools.combinations(breakers, 2):
        changed = copy.deepcopy(parts)
        second(changed)
        first(changed)
        check_error(test, first_error, call, changed, [first, second])


def check_error(test, error, call, changed, changes):
    told = [change.__name__ for change in changes]
    try:
        call(changed)
    except Exception as raised:
        test.assertIs(type(raised), error, (told, changed))
    else:
        test.fail((told, changed))


# What breaks requirements.

def unfit(name, place=99):
    """The standing of this name gets a place that its door does not have."""
    def unfit_standing(parts):
        parts[name][1] = [place] * max(1, len(parts[name][1]))
    return unfit_standing


def replaced(name, value):
    """The argument of this name gets another value."""
    def replaced_argument(parts):
        parts[name] = value
    replaced_argument.__name__ = f"replaced {name}"
    return replaced_argument


def other_trades(parts):
    parts["trades"] = "BR"


def with_masters(parts):
    """A master stands in room 0, in each standing that is passed."""
    for name in STANDINGS:
        if name in parts:
            parts[name][0].append(("*", 0))


def not_odd(parts):
    parts["doors"][0][2] = "RRBRRB"


def no_tree(parts):
    """One door more joins the rooms 0 and 1."""
    parts["doors"].append([0, 1, "RB"])
    for name in STANDINGS:
        if name in parts:
            parts[name][1].append(0)


def other_hands(name):
    """The hand 0 of the standing gets the other trade."""
    def other_hands_of(parts):
        trade, room = parts[name][0][0]
        parts[name][0][0] = ("B" if trade == "R" else "R", room)
    return other_hands_of


def fewer_hands(name):
    """The last hand of the standing is missing."""
    def fewer_hands_of(parts):
        parts[name][0].pop()
    return fewer_hands_of
