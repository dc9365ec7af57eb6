"""The question rows of a desk and their answers."""

from lanternhouse.deeds import Run, possible_deeds
from lanternhouse.lamps import quicken
from lanternhouse.ledgers import ledgers_of
from lanternhouse.meeting import meeting_distance
from lanternhouse.notation import format_run, is_number
from lanternhouse.reach import is_live, is_rooted, safe_deeds, spread_of
from lanternhouse.requirements import BLUE, RED
from lanternhouse.standing import has_hand, lights_of

NONE = "none"
NEVER = "never"


def yes_or_no(holds):
    """Return the answer to a question that is answered by yes or no."""
    return "yes" if holds else "no"


def or_none(text):
    """Return the text, or the answer for an empty list if it is empty."""
    return NONE if text == "" else text


def or_never(number):
    """Return the text of the number, or the answer for what never happens if it is None."""
    return NEVER if number is None else str(number)


def tell_live(house, standing):
    """Answer whether the standing is live."""
    return yes_or_no(is_live(house, standing))


def tell_rooted(house, standing):
    """Answer whether the standing is rooted."""
    return yes_or_no(is_rooted(house, standing))


def tell_meeting(house, standing):
    """Answer the meeting distance."""
    return or_never(meeting_distance(house, standing))


def tell_ledgers(house, standing):
    """Answer the ledgers of the rooms."""
    return "".join([str(ledger) for ledger in ledgers_of(house, standing)])


def tell_red_spread(house, standing):
    """Answer the spread of the reds."""
    return or_none(" ".join([str(room) for room in spread_of(house, standing, RED)]))


def tell_blue_spread(house, standing):
    """Answer the spread of the blues."""
    return or_none(" ".join([str(room) for room in spread_of(house, standing, BLUE)]))


def tell_lights(house, standing):
    """Answer the lights of the doors."""
    return or_none("".join(lights_of(house, standing)))


def tell_deeds(house, standing):
    """Answer the possible deeds."""
    return or_none(format_run(Run(possible_deeds(house, standing))))


def tell_safe(house, standing):
    """Answer the safe deeds."""
    return or_none(format_run(Run(safe_deeds(house, standing))))


def tell_quicken(house, standing):
    """Answer how many lamps have to be changed at least."""
    doors = quicken(house, standing)
    return or_never(None if doors is None else len(doors))


QUESTIONS = {
    "live?": tell_live,
    "rooted?": tell_rooted,
    "meeting?": tell_meeting,
    "ledgers?": tell_ledgers,
    "spread R?": tell_red_spread,
    "spread B?": tell_blue_spread,
    "lights?": tell_lights,
    "deeds?": tell_deeds,
    "safe?": tell_safe,
    "quicken?": tell_quicken,
}


def place_of_hand(standing, row):
    """Return the answer to a row that asks where a hand is, or None for every other row."""
    words = row.split(" ")
    if len(words) != 2 or words[0] != "where" or not words[1].endswith("?"):
        return None
    number = words[1][:-1]
    if not is_number(number) or not has_hand(standing, int(number)):
        return None
    trade, room = standing.hands[int(number)]
    return f"{trade}{room}"


def answer_to(house, standing, row):
    """Return the answer to the question row, or None if it is none or cannot be answered."""
    if row in QUESTIONS:
        question = QUESTIONS[row]
        return question(house, standing)
    return place_of_hand(standing, row)
