"""The deed rows of a desk, which lead to another house or another standing."""

from lanternhouse.deeds import do
from lanternhouse.errors import HouseError
from lanternhouse.growth import with_door, with_hand, with_room
from lanternhouse.house import need_doors, need_trade
from lanternhouse.notation import is_number
from lanternhouse.school import learn
from lanternhouse.standing import Standing, need_fits

MOST_HANDS = 40
MOST_DOORS = 24
MOST_ROOMS = 16
MOST_LETTERS = 12

# What stands behind the first word of a row: numbers, and words of other kinds.
NUMBER = "n"
FORMS = {"pass": "nn", "lamp": "nn", "hand": "tn", "door": "nncn", "room": "ncn", "learn": "n"}


def after_pass(house, standing, values):
    """Return what the desk keeps after a deed."""
    hand, door = values
    return house, do(house, standing, hand, door)


def after_lamp(house, standing, values):
    """Return what the desk keeps after a door is led to a place."""
    door, place = values
    need_doors(house, [door])
    places = list(standing.places)
    places[door] = place
    changed = Standing(standing.hands, places)
    need_fits(house, changed)
    return house, changed


def after_hand(house, standing, values):
    """Return what the desk keeps with a new hand."""
    trade, room = values
    # A master can be a new hand elsewhere, but not at a desk.
    need_trade(house, trade)
    return house, with_hand(house, standing, trade, room)


def after_door(house, standing, values):
    """Return what the desk keeps with a new door."""
    first, second, cycle, place = values
    return with_door(house, standing, first, second, cycle, place=place)


def after_room(house, standing, values):
    """Return what the desk keeps with a new room."""
    room, cycle, place = values
    return with_room(house, standing, room, cycle, place=place)


def after_learn(house, standing, values):
    """Return what the desk keeps after a lesson."""
    return house, learn(house, standing, values[0])


ACTIONS = {
    "pass": after_pass, "lamp": after_lamp, "hand": after_hand, "door": after_door, "room": after_room,
    "learn": after_learn,
}


def values_of(words):
    """Return the numbers and words behind the first word of a deed row, or None if it has no such form."""
    form = FORMS.get(words[0], "")
    if form == "" or len(words) != len(form) + 1:
        return None
    values = []
    for kind, word in zip(form, words[1:]):
        if kind == NUMBER and not is_number(word):
            return None
        values.append(int(word) if kind == NUMBER else word)
    return values


def is_full(house, standing, word):
    """Tell whether nothing more can be added by a row with this first word."""
    if word == "hand":
        return len(standing.hands) >= MOST_HANDS
    if word == "room" and house.rooms >= MOST_ROOMS:
        return True
    return word in ("door", "room") and len(house.doors) >= MOST_DOORS


def is_too_long(words):
    """Tell whether the row has a cycle, and it is too long."""
    return "c" in FORMS[words[0]] and len(words[-2]) > MOST_LETTERS


def after_row(house, standing, row):
    """Return the house and the standing after the deed row, or None if it cannot be done."""
    words = row.split(" ")
    values = values_of(words)
    if values is None or is_full(house, standing, words[0]) or is_too_long(words):
        return None
    action = ACTIONS[words[0]]
    try:
        return action(house, standing, values)
    except HouseError:
        return None
