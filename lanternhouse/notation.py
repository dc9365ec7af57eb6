"""Written forms of houses, standings and runs."""

from lanternhouse.deeds import Run
from lanternhouse.errors import InvalidText
from lanternhouse.house import House, is_letter
from lanternhouse.standing import MASTER, Standing

DIGITS = "0123456789"
MOST_DIGITS = 4


def format_house(house):
    """Return the written form of the house."""
    lines = [f"rooms {house.rooms} trades {house.trades}"]
    for first, second, cycle in house.doors:
        lines.append(f"door {first} {second} {cycle}")
    return "\n".join(lines)


def format_standing(standing):
    """Return the written form of the standing."""
    hands = [f"{trade}{room}" for trade, room in standing.hands]
    places = [str(place) for place in standing.places]
    return " ".join(["hands"] + hands + ["places"] + places)


def format_run(run):
    """Return the written form of the run."""
    return " ".join([f"{hand}:{door}" for hand, door in run.deeds])


def is_number(word):
    """Tell whether the word is a number as the written forms have it."""
    # The method isdigit would take signs of other scripts for digits.
    if not 1 <= len(word) <= MOST_DIGITS or not all([sign in DIGITS for sign in word]):
        return False
    return word == "0" or word[0] != "0"


def are_letters(word):
    """Tell whether the word consists of one or more letters from A to Z."""
    return len(word) > 0 and all([is_letter(sign) for sign in word])


def is_head(words):
    """Tell whether the words are those of the first line of a house."""
    if len(words) != 4 or words[0] != "rooms" or words[2] != "trades":
        return False
    return is_number(words[1]) and are_letters(words[3])


def is_door_line(words):
    """Tell whether the words are those of the line of a door."""
    if len(words) != 4 or words[0] != "door":
        return False
    return is_number(words[1]) and is_number(words[2]) and are_letters(words[3])


def parse_house(text):
    """Return the house that the text is the written form of."""
    lines = [line.split(" ") for line in text.split("\n")]
    # All lines are checked first: only a text of the right form may describe no house.
    if not is_head(lines[0]):
        raise InvalidText(0)
    for line, words in enumerate(lines):
        if line > 0 and not is_door_line(words):
            raise InvalidText(line)
    doors = [(int(words[1]), int(words[2]), words[3]) for words in lines[1:]]
    return House(int(lines[0][1]), doors, trades=lines[0][3])


def is_hand_word(word):
    """Tell whether the word is a trade directly followed by a room."""
    if len(word) == 0:
        return False
    return (word[0] == MASTER or is_letter(word[0])) and is_number(word[1:])


def parse_standing(text):
    """Return the standing that the text is the written form of."""
    words = text.split(" ")
    if words[0] != "hands" or "places" not in words:
        raise InvalidText(0)
    at = words.index("places")
    hands, places = words[1:at], words[at + 1:]
    if not all([is_hand_word(word) for word in hands]) or not all([is_number(word) for word in places]):
        raise InvalidText(0)
    return Standing([(word[0], int(word[1:])) for word in hands], [int(word) for word in places])


def parse_run(text):
    """Return the run that the text is the written form of."""
    # The empty run has no word, but splitting the empty text gives an empty one.
    if text == "":
        return Run([])
    deeds = [word.split(":") for word in text.split(" ")]
    for numbers in deeds:
        if len(numbers) != 2 or not all([is_number(word) for word in numbers]):
            raise InvalidText(0)
    return Run([(int(hand), int(door)) for hand, door in deeds])
