"""The desk: points 77 to 81, and point 17 for lanternhouse/desk.py."""

import copy
import random
import re
import unittest

from lanternhouse.desk import Desk
from lanternhouse.errors import HouseError, InvalidStanding, Refused, WrongTrades
from lanternhouse.house import House
from lanternhouse.lamps import quicken
from lanternhouse.meeting import meeting_distance
from lanternhouse.standing import Standing

from broken import check_requirements, other_trades, parts_of, unfit, with_masters
from support import (
    plain, random_cycle, samples, slow_deeds, slow_do, slow_ledger, slow_lights, slow_live, slow_rooted, slow_spread,
)

HOUSE = House(3, [(0, 1, "RB"), (1, 2, "RRRB")])
STANDING = Standing([("R", 0), ("B", 2), ("R", 2)], [0, 3])
EMPTY_HOUSE = House(1, [])
EMPTY = Standing([], [])


def new_desk():
    return Desk(HOUSE, STANDING)


def kept(desk):
    """Tell all that a desk keeps, with what can be redone."""
    return plain(desk.house), plain(desk.standing), desk.journal(), len(desk), list(desk), desk.busy, redone(desk)


def redone(desk):
    """Tell the journal after each row that can be redone, from a copy of the desk."""
    twin = copy.deepcopy(desk)
    journals = []
    while True:
        try:
            twin.tell("redo")
        except Refused:
            return journals
        journals.append((twin.journal(), plain(twin.house), plain(twin.standing)))


# A slow desk, which keeps what it started with and does all rows in force again each time.

NUMBER = "(0|[1-9][0-9]{0,3})"
FORMS = {
    "pass": f"pass {NUMBER} {NUMBER}",
    "lamp": f"lamp {NUMBER} {NUMBER}",
    "hand": f"hand ([RB]) {NUMBER}",
    "door": f"door {NUMBER} {NUMBER} ([RB]{{2,12}}) {NUMBER}",
    "room": f"room {NUMBER} ([RB]{{2,12}}) {NUMBER}",
    "learn": f"learn {NUMBER}",
}


def parsed(row):
    """Return the first word and the values of a deed row, or None."""
    for word, form in FORMS.items():
        match = re.fullmatch(form, row)
        if match:
            return word, [int(value) if value.isdigit() else value for value in match.groups()]
    return None


def may_learn(standing, hand):
    if hand >= len(standing.hands):
        return False
    others = [own for other, own in enumerate(standing.hands) if other != hand]
    return all((trade, standing.hands[hand][1]) in others for trade in "RB")


def is_new_door(house, first, second, cycle, place, rooms):
    fit = first < rooms and second < rooms and first != second and len(house.doors) < 24
    return fit and set(cycle) == {"R", "B"} and place < len(cycle)


def slow_row(house, standing, row):
    """Do a deed row as point 78 says, or return None."""
    if parsed(row) is None:
        return None
    word, values = parsed(row)
    hands, places = list(standing.hands), list(standing.places)
    if word == "pass":
        return (house, slow_do(house, standing, *values)) if tuple(values) in slow_deeds(house, standing) else None
    if word == "lamp":
        door, place = values
        if door >= len(places) or place >= len(house.doors[door][2]):
            return None
        places[door] = place
        return house, Standing(hands, places)
    if word == "hand":
        trade, room = values
        return (house, Standing(hands + [(trade, room)], places)) if room < house.rooms and len(hands) < 40 else None
    if word == "learn":
        hand = values[0]
        if not may_learn(standing, hand):
            return None
        hands[hand] = ("B" if hands[hand][0] == "R" else "R", hands[hand][1])
        return house, Standing(hands, places)
    rooms = house.rooms
    if word == "room":
        rooms += 1
        values = [values[0], house.rooms] + values[1:]
    if rooms > 16 or not is_new_door(house, *values, rooms):
        return None
    return House(rooms, house.doors + (tuple(values[:3]),)), Standing(hands, places + values[3:])


def slow_answer(house, standing, row):
    """Answer a question row as point 80 says, or return None."""
    lights = slow_lights(house, standing)
    deeds = slow_deeds(house, standing)
    match = re.fullmatch(f"where {NUMBER}\\?", row)
    if match:
        hand = int(match.group(1))
        return "%s%d" % standing.hands[hand] if hand < len(standing.hands) else None
    if re.fullmatch(r"spread [RB]\?", row):
        return " ".join(str(room) for room in sorted(slow_spread(house, standing, lights, row[7]))) or "none"
    safe = [deed for deed in deeds if slow_live(house, slow_do(house, standing, *deed))]
    doors = quicken(house, standing)
    distance = meeting_distance(house, standing)
    return {
        "live?": "yes" if slow_live(house, standing) else "no",
        "rooted?": "yes" if slow_rooted(house, standing) else "no",
        "meeting?": "never" if distance is None else str(distance),
        "ledgers?": "".join(str(slow_ledger(house, standing, [room])) for room in range(house.rooms)),
        "lights?": "".join(lights) or "none",
        "deeds?": " ".join("%d:%d" % deed for deed in deeds) or "none",
        "safe?": " ".join("%d:%d" % deed for deed in safe) or "none",
        "quicken?": "never" if doors is None else str(len(doors)),
    }.get(row)


class SlowDesk:

    def __init__(self, house, standing):
        self.first = (house, standing)
        self.rows, self.undone = [], []

    def now(self):
        house, standing = self.first
        for row in self.rows:
            house, standing = slow_row(house, standing, row)
        return house, standing

    def tell(self, row):
        """Return the answer, or None for a row that is refused."""
        if row == "undo":
            if not self.rows:
                return None
            self.undone.append(self.rows.pop())
            return "done"
        if row == "redo":
            if not self.undone:
                return None
            self.rows.append(self.undone.pop())
            return "done"
        answer = slow_answer(*self.now(), row)
        if answer is not None:
            return answer
        if slow_row(*self.now(), row) is None:
            return None
        self.rows.append(row)
        self.undone = []
        return "done"


QUESTIONS = [
    "live?", "rooted?", "meeting?", "ledgers?", "spread R?", "spread B?", "lights?", "where 0?", "where 2?", "deeds?",
    "safe?", "quicken?",
]


def random_row(rng, house, standing):
    """Make a row, which can be done in most cases."""
    kind = rng.randrange(14)
    if kind < 3:
        deeds = slow_deeds(house, standing)
        deed = rng.choice(deeds) if deeds and rng.random() < 0.9 else (rng.randrange(6), rng.randrange(6))
        return "pass %d %d" % deed
    if kind < 5:
        return rng.choice(["undo", "undo", "redo"])
    if kind < 8:
        return rng.choice(["redo", rng.choice(QUESTIONS), f"where {rng.randrange(8)}?"])
    cycle = random_cycle(rng, 6) if rng.random() < 0.9 else rng.choice(["R", "RBX", "RB" * 7])
    rooms = [rng.randrange(house.rooms + (rng.random() < 0.2)) for _ in range(2)]
    if kind == 8:
        return f"lamp {rng.randrange(len(house.doors) + 1)} {rng.randrange(4)}"
    if kind == 9:
        return f"hand {rng.choice('RBRBRBX*')} {rooms[0]}"
    if kind == 10:
        return f"door {rooms[0]} {rooms[1]} {cycle} {rng.randrange(4)}"
    if kind == 11:
        return f"room {rooms[0]} {cycle} {rng.randrange(3)}"
    if kind == 12:
        return f"learn {rng.randrange(len(standing.hands) + 1)}"
    return rng.choice(["", " live?", "live", "where 1", "spread X?", "undo ", "pass 0", "hand R", "door 0 1 RB", "busy?"])


class AgainstTheSlowDesk(unittest.TestCase):

    def test_one_row_after_the_other(self):
        rng = random.Random(470)
        done, refused = {}, {}
        for house, standing in samples(471, 120, most_rooms=3, most_hands=5):
            desk, slow = Desk(house, standing), SlowDesk(house, standing)
            for _ in range(25):
                row = random_row(rng, desk.house, desk.standing)
                wanted = slow.tell(row)
                counts = refused if wanted is None else done
                word = row.split(" ")[0]
                counts[word] = counts.get(word, 0) + 1
                if wanted is None:
                    with self.assertRaises(Refused) as caught:
                        desk.tell(row)
                    self.assertEqual(caught.exception.row, row)
                else:
                    self.assertEqual(desk.tell(row), wanted)
                self.check_kept(desk, slow)
        words = ["pass", "undo", "redo", "lamp", "hand", "door", "room", "learn", "where"]
        self.assertGreater(min(done[word] for word in words), 20)
        self.assertGreater(min(refused[word] for word in words), 5)

    def check_kept(self, desk, slow):
        house, standing = slow.now()
        self.assertEqual((plain(desk.house), plain(desk.standing)), (plain(house), plain(standing)))
        self.assertEqual((desk.journal(), len(desk), list(desk)), (slow.rows, len(slow.rows), slow.rows))
        self.assertIs(desk.busy, False)

    def test_several_rows_at_once(self):
        rng = random.Random(472)
        refused = done = 0
        for house, standing in samples(473, 300, most_rooms=3, most_hands=5):
            desk, slow = Desk(house, standing), SlowDesk(house, standing)
            for _ in range(8):
                trial, rows, answers = copy.deepcopy(slow), [], []
                for _ in range(rng.randint(0, 5)):
                    rows.append(random_row(rng, *trial.now()))
                    answers.append(trial.tell(rows[-1]))
                    if answers[-1] is None:
                        break
                if None in answers:
                    # What stands behind the refused row does not matter.
                    more = rng.choice([[], ["live?"], ["undo", "nothing"]])
                    before = kept(desk)
                    with self.assertRaises(Refused) as caught:
                        desk.tell_all(rows + more)
                    self.assertEqual(caught.exception.row, rows[-1])
                    self.assertEqual(kept(desk), before)
                    refused += len(rows) > 1
                else:
                    slow = trial
                    self.assertEqual(desk.tell_all(rows), answers)
                    done += len(rows) > 1
                self.check_kept(desk, slow)
        self.assertGreater(min(refused, done), 100)


class DeedRows(unittest.TestCase):

    def check_done(self, row, hands=None, places=None, rooms=3, doors=HOUSE.doors):
        """Check what a new desk keeps after the row; hands and places that are not named stay as they are."""
        desk = new_desk()
        self.assertEqual(desk.tell(row), "done")
        self.assertEqual(plain(desk.house), ("house", rooms, tuple(doors), "RB"))
        hands = STANDING.hands if hands is None else tuple(hands)
        places = STANDING.places if places is None else tuple(places)
        self.assertEqual(plain(desk.standing), ("standing", hands, places))
        self.assertEqual(desk.journal(), [row])

    def check_refused(self, *rows, desk=None):
        desk = new_desk() if desk is None else desk
        before = kept(desk)
        for row in rows:
            with self.assertRaises(Refused) as caught:
                desk.tell(row)
            self.assertEqual(caught.exception.row, row)
            self.assertEqual(kept(desk), before, row)

    def test_pass(self):
        self.check_done("pass 0 0", hands=[("R", 1), ("B", 2), ("R", 2)], places=[1, 3])
        self.check_done("pass 1 1", hands=[("R", 0), ("B", 1), ("R", 2)], places=[0, 0])
        self.check_refused("pass 2 1", "pass 0 1", "pass 1 0", "pass 3 0", "pass 0 2", "pass 9999 0", "pass 0 9999")

    def test_lamp(self):
        self.check_done("lamp 1 2", places=[0, 2])
        self.check_done("lamp 0 1", places=[1, 3])
        self.check_done("lamp 1 3")
        self.check_refused("lamp 2 0", "lamp 0 2", "lamp 1 4", "lamp 9999 0", "lamp 0 9999", "lamp -1 0", "lamp 0 -1")

    def test_hand(self):
        for trade in "RB":
            for room in range(3):
                self.check_done(f"hand {trade} {room}", hands=STANDING.hands + ((trade, room),))
        self.check_refused("hand R 3", "hand X 0", "hand * 0", "hand r 0", "hand RB 0", "hand  0", "hand 0 R", "hand R -1")

    def test_door(self):
        self.check_done("door 0 2 RRB 2", places=[0, 3, 2], doors=HOUSE.doors + ((0, 2, "RRB"),))
        self.check_done("door 2 1 BR 0", places=[0, 3, 0], doors=HOUSE.doors + ((2, 1, "BR"),))
        self.check_refused("door 0 0 RB 0", "door 0 3 RB 0", "door 3 0 RB 0", "door 0 1 RB 2", "door 0 1 R 0")
        self.check_refused("door 0 1 RBX 0", "door 0 1 BBB 0", "door 0 1 rb 0", "door 0 1  0", "door 0 1 RB -1")

    def test_room(self):
        for room in range(3):
            doors = HOUSE.doors + ((room, 3, "BRR"),)
            self.check_done(f"room {room} BRR 1", places=[0, 3, 1], rooms=4, doors=doors)
        self.check_refused("room 3 RB 0", "room 0 RB 2", "room 0 RR 0", "room 0 B 0", "room 0 RBG 0", "room 0  0")

    def test_learn(self):
        desk = new_desk()
        desk.tell_all(["hand R 2", "hand B 2"])
        for hand, trade in ((1, "R"), (2, "B"), (3, "B"), (4, "R")):
            self.assertEqual(desk.tell(f"learn {hand}"), "done")
            self.assertEqual(desk.tell(f"where {hand}?"), f"{trade}2")
            desk.tell("undo")
        self.check_refused("learn 0", "learn 5", "learn 9999", "learn -1", desk=desk)
        self.check_refused("learn 1", "learn 2", "learn 0")

    def test_cycles_have_at_most_twelve_letters(self):
        for row in ("door 0 1 {} 0", "room 0 {} 0"):
            desk = new_desk()
            self.assertEqual(desk.tell(row.format("RB" * 6)), "done")
            self.assertEqual(desk.tell(row.format("R" * 11 + "B")), "done")
            self.check_refused(row.format("RB" * 6 + "R"), row.format("R" * 12 + "B"), row.format("RB" * 10), desk=desk)

    def test_at_most_forty_hands(self):
        desk = Desk(HOUSE, Standing([("R", 0)] * 39, [0, 0]))
        self.assertEqual(desk.tell("hand B 1"), "done")
        self.check_refused("hand B 1", "hand R 0", desk=desk)
        self.assertEqual(desk.tell_all(["undo", "hand R 2"]), ["done", "done"])
        for hands in (41, 45):
            self.check_refused("hand B 1", desk=Desk(HOUSE, Standing([("R", 0)] * hands, [0, 0])))

    def test_at_most_sixteen_rooms(self):
        desk = Desk(EMPTY_HOUSE, EMPTY)
        for room in range(15):
            self.assertEqual(desk.tell(f"room {room} RB 0"), "done")
        self.check_refused("room 0 RB 0", "room 15 RB 1", desk=desk)
        self.assertEqual(desk.tell("door 15 0 RB 1"), "done")
        self.assertEqual((desk.house.rooms, len(desk.house.doors)), (16, 16))

    def test_at_most_twenty_four_doors(self):
        desk = new_desk()
        for _ in range(21):
            self.assertEqual(desk.tell("door 0 1 RB 0"), "done")
        self.assertEqual(desk.tell("room 0 RB 0"), "done")
        self.check_refused("door 0 1 RB 0", "room 0 RB 0", desk=desk)
        self.assertEqual((desk.house.rooms, len(desk.house.doors)), (4, 24))
        desk.tell("undo")
        self.assertEqual(desk.tell("door 0 1 RB 0"), "done")
        self.check_refused("room 0 RB 0", "door 1 2 RB 1", desk=desk)

    def test_rows_without_a_form(self):
        self.check_refused(
            "", " ", "  ", "pass", "pass 0", "pass 0 0 0", "pass  0 0", " pass 0 0", "pass 0 0 ", "pass 0  0", "Pass 0 0",
            "PASS 0 0", "pass\t0 0", "pass 0 0\n", "\npass 0 0", "pass 00 0", "pass 0 00", "pass +0 0", "pass -0 0",
            "pass 0 -0", "pass 0:0", "pass 00000 0", "pass 0 10000", "pass 0x0 0", "pass 0.0 0", "pass 0_0 0", "pass a b",
            "lamp", "lamp 0", "lamp 0 0 0", "lamp 0 R", "lamp 01 0", "lamp 1 03", "hand", "hand R", "hand R 0 0", "hand R 01",
            "door", "door 0 1", "door 0 1 RB", "door 0 1 0 RB", "door 0 1 RB 0 0", "door RB 0 1 0", "door 00 1 RB 0",
            "room", "room 0", "room 0 RB", "room RB 0 0", "room 0 RB 0 0", "room 0 RB 00", "learn", "learn 1 1", "learn R",
            "undo 1", "undo ", " undo", "Undo", "redo 1", "redo ", "undo?", "redo?", "undone", "jump 0", "quit", "journal",
        )


class Questions(unittest.TestCase):

    def check(self, house, hands, places, **answers):
        desk = Desk(house, Standing(hands, places))
        for word, answer in answers.items():
            row = {"reds": "spread R", "blues": "spread B"}.get(word, word) + "?"
            self.assertEqual(desk.tell(row), answer, row)
        self.assertEqual(desk.journal(), [])

    def test_the_first_example(self):
        self.check(
            HOUSE, [("R", 0), ("B", 2)], [0, 3], live="yes", rooted="no", meeting="2", ledgers="110", reds="0 1",
            blues="1 2", lights="RB", deeds="0:0 1:1", safe="0:0 1:1", quicken="0",
        )

    def test_the_second_example(self):
        house = House(3, [(0, 1, "RB"), (1, 2, "RB")])
        self.check(
            house, [("R", 0), ("B", 2)], [1, 0], live="no", rooted="yes", meeting="never", ledgers="011", reds="0",
            blues="2", lights="BR", deeds="none", safe="none", quicken="1",
        )

    def test_an_empty_house(self):
        self.check(
            EMPTY_HOUSE, [], [], live="no", rooted="no", meeting="never", ledgers="0", reds="none", blues="none",
            lights="none", deeds="none", safe="none", quicken="never",
        )
        self.check(
            EMPTY_HOUSE, [("R", 0), ("B", 0)], [], live="yes", rooted="yes", meeting="0", ledgers="0", reds="0", blues="0",
            lights="none", deeds="none", safe="none", quicken="0",
        )
        self.check(EMPTY_HOUSE, [("R", 0)], [], ledgers="1", blues="none", meeting="never", quicken="never")

    def test_where(self):
        desk = new_desk()
        self.assertEqual([desk.tell(f"where {hand}?") for hand in range(3)], ["R0", "B2", "R2"])
        desk.tell("pass 0 0")
        self.assertEqual(desk.tell("where 0?"), "R1")
        for row in ("where 3?", "where 9999?"):
            with self.assertRaises(Refused) as caught:
                desk.tell(row)
            self.assertEqual(caught.exception.row, row)

    def test_many_hands_and_rooms(self):
        house = House(12, [(room, room + 1, "RB") for room in range(11)])
        self.check(
            house, [("R", 11)] * 11, [0] * 11, reds="0 1 2 3 4 5 6 7 8 9 10 11", lights="R" * 11, ledgers="0" * 11 + "1",
            deeds=" ".join(f"{hand}:10" for hand in range(11)), safe="none",
        )
        desk = Desk(house, Standing([("R", 11)] * 11, [0] * 11))
        self.assertEqual(desk.tell("where 10?"), "R11")

    def test_the_order_of_deeds(self):
        house = House(2, [(0, 1, "RB"), (1, 0, "RB"), (0, 1, "BR")])
        self.check(
            house, [("R", 0), ("B", 0), ("R", 1)], [0, 0, 0], deeds="0:0 0:1 1:2 2:0 2:1", safe="0:0 0:1 1:2 2:0 2:1",
        )

    def test_questions_without_a_form(self):
        desk = new_desk()
        for row in (
            "live", "live ?", "Live?", "live??", " live?", "live? ", "rooted", "meeting", "ledgers", "lights", "deeds", "safe",
            "quicken", "spread?", "spread ?", "spread R", "spread R ?", "spread  R?", "spread X?", "spread *?", "spread r?",
            "spread RB?", "spread R? ", "where?", "where ?", "where 0", "where 0 ?", "where  0?", "where 00?", "where +0?",
            "where -1?", "where 00000?", "where 10000?", "where 0??", "where R?", "where 0? 1?", "live?\n", "?", "live? live?",
            "live?rooted?", "pass?", "where 0 1?", "ledgers? 0", "what?",
        ):
            with self.assertRaises(Refused) as caught:
                desk.tell(row)
            self.assertEqual(caught.exception.row, row)
        self.assertEqual(kept(desk), kept(new_desk()))

    def test_questions_change_nothing(self):
        desk = new_desk()
        desk.tell_all(["pass 0 0", "lamp 0 0", "undo"])
        before = kept(desk)
        for row in QUESTIONS:
            desk.tell(row)
            self.assertEqual(kept(desk), before)
        self.assertEqual(desk.tell("redo"), "done")
        self.assertEqual(desk.journal(), ["pass 0 0", "lamp 0 0"])


class UndoAndRedo(unittest.TestCase):

    def check_refused(self, desk, row):
        before = kept(desk)
        with self.assertRaises(Refused) as caught:
            desk.tell(row)
        self.assertEqual(caught.exception.row, row)
        self.assertEqual(kept(desk), before)

    def test_every_deed_row_and_back(self):
        rows = ["pass 0 0", "lamp 1 1", "hand B 1", "door 0 2 RRB 1", "room 2 RB 1", "hand R 1", "hand B 1", "learn 3"]
        desk = new_desk()
        states = [(plain(desk.house), plain(desk.standing))]
        for row in rows:
            self.assertEqual(desk.tell(row), "done")
            states.append((plain(desk.house), plain(desk.standing)))
        for number in range(len(rows) - 1, -1, -1):
            self.assertEqual(desk.tell("undo"), "done")
            self.assertEqual((plain(desk.house), plain(desk.standing)), states[number])
            self.assertEqual(desk.journal(), rows[:number])
        self.check_refused(desk, "undo")
        for number in range(1, len(rows) + 1):
            self.assertEqual(desk.tell("redo"), "done")
            self.assertEqual((plain(desk.house), plain(desk.standing)), states[number])
            self.assertEqual(desk.journal(), rows[:number])
        self.check_refused(desk, "redo")

    def test_nothing_to_take_back(self):
        desk = new_desk()
        self.check_refused(desk, "undo")
        self.check_refused(desk, "redo")
        desk.tell("live?")
        self.check_refused(desk, "undo")

    def test_one_row_each_time_of_rows_told_at_once(self):
        desk = new_desk()
        desk.tell_all(["lamp 0 1", "live?", "lamp 0 0", "lamp 1 2"])
        for journal in (["lamp 0 1", "lamp 0 0"], ["lamp 0 1"], []):
            desk.tell("undo")
            self.assertEqual(desk.journal(), journal)
        self.check_refused(desk, "undo")
        self.assertEqual(desk.tell_all(["redo", "redo", "undo", "redo", "redo"]), ["done"] * 5)
        self.assertEqual(desk.journal(), ["lamp 0 1", "lamp 0 0", "lamp 1 2"])

    def test_a_lamp_that_changes_nothing_is_a_row_of_its_own(self):
        desk = new_desk()
        desk.tell_all(["lamp 0 0", "lamp 0 0"])
        self.assertEqual(len(desk), 2)
        desk.tell("undo")
        self.assertEqual((len(desk), plain(desk.standing)), (1, plain(STANDING)))

    def test_a_new_deed_row_makes_redo_impossible(self):
        desk = new_desk()
        desk.tell_all(["lamp 0 1", "lamp 1 0", "undo", "undo", "hand R 0"])
        self.check_refused(desk, "redo")
        self.assertEqual(desk.journal(), ["hand R 0"])
        # The same row told anew is a new row, too.
        desk = new_desk()
        desk.tell_all(["lamp 0 1", "lamp 1 0", "undo", "undo", "lamp 0 1"])
        self.check_refused(desk, "redo")

    def test_questions_and_refused_rows_do_not(self):
        for row in QUESTIONS + ["pass 0 1", "lamp 9 9", "", "learn 0", "hand X 0", "what?", "where 7?", "door 0 0 RB 0"]:
            desk = new_desk()
            desk.tell_all(["lamp 0 1", "lamp 1 0", "undo", "undo"])
            try:
                desk.tell(row)
            except Refused:
                self.assertNotIn(row, QUESTIONS)
            self.assertEqual(desk.tell_all(["redo", "redo"]), ["done", "done"])
            self.assertEqual(desk.journal(), ["lamp 0 1", "lamp 1 0"])

    def test_redo_gives_the_rows_back_in_their_order(self):
        desk = new_desk()
        desk.tell_all(["lamp 0 1", "lamp 1 0", "lamp 1 1", "undo", "undo", "redo"])
        self.assertEqual(desk.journal(), ["lamp 0 1", "lamp 1 0"])
        self.assertEqual(desk.standing.places, (1, 0))
        desk.tell_all(["undo", "undo", "redo", "redo", "redo"])
        self.assertEqual(desk.journal(), ["lamp 0 1", "lamp 1 0", "lamp 1 1"])

    def test_undo_behind_redo(self):
        desk = new_desk()
        desk.tell_all(["hand R 0", "undo", "redo", "undo"])
        self.assertEqual((desk.journal(), plain(desk.standing)), ([], plain(STANDING)))
        desk.tell("redo")
        self.assertEqual(len(desk.standing.hands), 4)


class Desks(unittest.TestCase):

    def test_rows_told_at_once(self):
        desk = new_desk()
        self.assertEqual(desk.tell_all([]), [])
        self.assertEqual(desk.tell_all(("live?", "pass 0 0", "where 0?", "undo", "where 0?")), ["yes", "done", "R1", "done", "R0"])
        self.assertEqual(desk.journal(), [])

    def test_a_row_that_is_refused_in_the_middle(self):
        desk = new_desk()
        desk.tell_all(["lamp 0 1", "hand R 0", "lamp 1 1", "undo", "undo"])
        before = kept(desk)
        self.assertEqual(len(redone(desk)), 2)
        for rows in (
            ["redo", "hand B 0", "undo", "pass 9 9"], ["undo", "undo"], ["redo", "redo", "redo"], ["pass 9 9", "redo"],
            ["lamp 0 0", "room 0 RB 0", "door 3 0 RB 1", "learn 0"], ["undo", "live?", "where 9?", "redo"], ["redo", ""],
        ):
            with self.assertRaises(Refused):
                desk.tell_all(rows)
            self.assertEqual(kept(desk), before, rows)

    def test_the_refused_row_is_named(self):
        desk = new_desk()
        for rows, row in ((["live?", "x", "y"], "x"), (["undo", "redo"], "undo"), (["lamp 0 0", "redo"], "redo")):
            with self.assertRaises(Refused) as caught:
                desk.tell_all(rows)
            self.assertEqual(caught.exception.row, row)

    def test_busy(self):
        desk = new_desk()
        self.assertIs(desk.busy, False)
        for call, argument in ((desk.tell, "live?"), (desk.tell, "lamp 0 1"), (desk.tell_all, ["undo"]), (desk.tell_all, [])):
            call(argument)
            self.assertIs(desk.busy, False)
        for call, argument in ((desk.tell, "x"), (desk.tell, "undo"), (desk.tell_all, ["live?", "x"]), (desk.tell, "pass 9 9")):
            with self.assertRaises(Refused):
                call(argument)
            self.assertIs(desk.busy, False)

    def test_busy_while_it_works(self):
        seen = []

        class Rows(list):
            """A list that looks at the desk while it is gone through."""

            def __iter__(self):
                for row in list.__iter__(self):
                    seen.append(desk.busy)
                    yield row

        desk = new_desk()
        desk.tell_all(Rows(["live?", "lamp 0 1"]))
        with self.assertRaises(Refused):
            desk.tell_all(Rows(["live?", "x", "live?"]))
        self.assertEqual(seen, [True] * 4)
        self.assertIs(desk.busy, False)

    def test_the_journal_is_a_new_list(self):
        desk = new_desk()
        rows = ["lamp 0 1", "hand R 0"]
        desk.tell_all(rows)
        desk.journal().clear()
        rows.append("more")
        self.assertEqual((desk.journal(), len(desk), list(desk)), (rows[:2], 2, rows[:2]))
        answers = desk.tell_all(["live?"])
        answers.append("more")
        self.assertEqual(desk.tell_all(["live?"]), ["yes"])

    def test_only_deed_rows_are_in_the_journal(self):
        desk = new_desk()
        desk.tell_all(["live?", "lamp 0 1", "undo", "redo", "where 0?", "hand B 0", "undo"])
        self.assertEqual(list(desk), ["lamp 0 1"])
        self.assertEqual([row for row in desk], ["lamp 0 1"])
        self.assertEqual(len(desk), 1)

    def test_two_desks(self):
        first, second = new_desk(), new_desk()
        first.tell_all(["lamp 0 1", "room 0 RB 0", "undo"])
        self.assertEqual(kept(second), kept(new_desk()))
        second.tell("hand R 0")
        self.assertEqual(first.journal(), ["lamp 0 1"])
        self.assertEqual(first.tell("redo"), "done")
        with self.assertRaises(Refused):
            second.tell("redo")
        self.assertEqual((len(first.standing.hands), len(second.standing.hands)), (3, 4))

    def test_what_is_passed_does_not_change(self):
        house, standing = House(3, HOUSE.doors), Standing(STANDING.hands, STANDING.places)
        desk = Desk(house, standing)
        desk.tell_all(["pass 0 0", "room 1 RB 0", "hand B 0", "lamp 1 1"])
        self.assertEqual((plain(house), plain(standing)), (plain(HOUSE), plain(STANDING)))
        self.assertEqual(plain(Desk(house, standing).standing), plain(STANDING))

    def test_three_hundred_rows(self):
        desk = new_desk()
        rows = ["lamp 0 1", "lamp 0 0", "undo"] * 100
        self.assertEqual(desk.tell_all(rows), ["done"] * 300)
        self.assertEqual(desk.journal(), ["lamp 0 1"] * 100)

    def test_requirements(self):
        for break_trades in (other_trades, with_masters):
            check_requirements(self, Desk, ["standing"], parts_of(HOUSE, standing=STANDING), [
                (InvalidStanding, unfit("standing")),
                (WrongTrades, break_trades),
            ])

    def test_a_refusal_is_an_error_of_the_program(self):
        with self.assertRaises(HouseError):
            new_desk().tell("x")


if __name__ == "__main__":
    unittest.main()
