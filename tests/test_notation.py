"""Written forms: points 14 to 16."""

import unittest

from lanternhouse.deeds import Run
from lanternhouse.errors import InvalidHouse, InvalidText
from lanternhouse.house import House
from lanternhouse.notation import (
    format_house, format_run, format_standing, parse_house, parse_run, parse_standing,
)
from lanternhouse.standing import Standing

from support import plain, samples, slow_deeds

HOUSE_TEXT = "rooms 3 trades RB\ndoor 0 1 RB\ndoor 2 1 RRRB"
# Signs that Python takes for digits or letters, or for spaces and ends of lines.
OTHER_SIGNS = ["\u0663", "\u00b2", "\uff11", "\uff32", "\u00c9", "\u00a0", "\u2028", "\t", "\r", "\x0b", "\x0c", "\x00"]


class InvalidForms(unittest.TestCase):

    def check_line(self, parse, text, line):
        with self.assertRaises(InvalidText, msg=repr(text)) as caught:
            parse(text)
        self.assertEqual(caught.exception.line, line, repr(text))


class Houses(InvalidForms):

    def test_format(self):
        house = House(3, [(0, 1, "RB"), (2, 1, "RRRB")])
        self.assertEqual(format_house(house), HOUSE_TEXT)

    def test_format_without_doors(self):
        self.assertEqual(format_house(House(1, [])), "rooms 1 trades RB")
        self.assertEqual(format_house(House(1, [], trades="ZXA")), "rooms 1 trades ZXA")

    def test_format_large_numbers(self):
        chain = [(room, room + 1, "RB") for room in range(11)]
        lines = format_house(House(12, chain)).split("\n")
        self.assertEqual((lines[0], lines[-1], len(lines)), ("rooms 12 trades RB", "door 10 11 RB", 12))

    def test_parse(self):
        house = parse_house(HOUSE_TEXT)
        self.assertIsInstance(house, House)
        self.assertEqual(plain(house), ("house", 3, ((0, 1, "RB"), (2, 1, "RRRB")), "RB"))

    def test_parse_without_doors(self):
        self.assertEqual(plain(parse_house("rooms 1 trades AZ")), ("house", 1, (), "AZ"))

    def test_written_and_read_again(self):
        for house, _ in samples(30, 40, most_rooms=8) + samples(31, 20, trades="QAZ", longest=6):
            self.assertEqual(plain(parse_house(format_house(house))), plain(house))

    def test_faulty_first_lines(self):
        for text in (
            "", " ", "\n", "rooms", "rooms 1", "rooms 1 trades", "rooms 1 trades ", "rooms 1 trades RB ",
            " rooms 1 trades RB", "rooms  1 trades RB", "rooms 1  trades RB", "rooms 1 trades  RB",
            "rooms 1 trades RB RB", "Rooms 1 trades RB", "rooms 1 Trades RB", "room 1 trades RB",
            "rooms RB trades 1", "trades RB rooms 1", "rooms 1 doors RB", "rooms 1 trades rb",
            "rooms 1 trades R*", "rooms 1 trades R1", "rooms 1 trades R-B", "rooms 1 trades R@",
            "rooms 1 trades R[", "rooms1 trades RB", "door 0 1 RB", "rooms 1\ttrades RB",
        ):
            self.check_line(parse_house, text, 0)

    def test_faulty_numbers(self):
        for number in ("+1", "-1", "-0", "01", "00", "0001", "12345", "00000", "", "1.0", "1_0", "x", "0x1", "1e1"):
            self.check_line(parse_house, f"rooms {number} trades RB", 0)
            self.check_line(parse_house, f"rooms 3 trades RB\ndoor {number} 1 RB", 1)
            self.check_line(parse_house, f"rooms 3 trades RB\ndoor 0 {number} RB", 1)

    def test_other_signs(self):
        for sign in OTHER_SIGNS:
            self.check_line(parse_house, f"rooms {sign} trades RB", 0)
            self.check_line(parse_house, f"rooms 1{sign} trades RB", 0)
            self.check_line(parse_house, f"rooms 1 trades RB{sign}", 0)
            self.check_line(parse_house, f"rooms{sign}1 trades RB", 0)
            self.check_line(parse_house, f"rooms 2 trades RB\ndoor 0 1 RB{sign}", 1)
            self.check_line(parse_house, f"rooms 2 trades RB{sign}door 0 1 RB", 0)

    def test_faulty_lines_of_doors(self):
        for line in (
            "", " ", "door", "door 0 1", "door 0 1 ", "door 0 1 RB ", " door 0 1 RB", "door  0 1 RB",
            "door 0  1 RB", "door 0 1  RB", "door 0 1 RB RB", "Door 0 1 RB", "door 0 1 rb", "door 0 1 R*",
            "door 0 1 2", "door RB 0 1", "doors 0 1 RB", "rooms 2 trades RB", "hands places", "door 0 1 R@B",
        ):
            self.check_line(parse_house, f"rooms 2 trades RB\n{line}", 1)
            self.check_line(parse_house, f"rooms 2 trades RB\ndoor 0 1 RB\n{line}", 2)

    def test_a_newline_at_the_end_makes_an_empty_line(self):
        self.check_line(parse_house, "rooms 1 trades RB\n", 1)
        self.check_line(parse_house, HOUSE_TEXT + "\n", 3)
        self.check_line(parse_house, HOUSE_TEXT + "\n\n", 3)

    def test_a_newline_at_the_start(self):
        self.check_line(parse_house, "\n" + HOUSE_TEXT, 0)

    def test_an_empty_line_between(self):
        self.check_line(parse_house, "rooms 2 trades RB\n\ndoor 0 1 RB", 1)

    def test_the_first_faulty_line_is_named(self):
        self.check_line(parse_house, "rooms 2 trades RB\ndoor 0 1 RB\ndoor 0 1\ndoor", 2)
        self.check_line(parse_house, "rooms 2 trades\ndoor 0 1", 0)
        self.check_line(parse_house, "rooms 2 trades RB\ndoor 00 1 RB\n", 1)

    def check_no_house(self, text, door):
        with self.assertRaises(InvalidHouse) as caught:
            parse_house(text)
        self.assertEqual(caught.exception.door, door)

    def test_texts_of_the_right_form_that_describe_no_house(self):
        self.check_no_house("rooms 0 trades RB", None)
        self.check_no_house("rooms 1 trades R", None)
        self.check_no_house("rooms 1 trades RRB", None)
        self.check_no_house("rooms 2 trades RB", None)
        self.check_no_house("rooms 3 trades RB\ndoor 0 1 RB", None)
        self.check_no_house("rooms 2 trades RB\ndoor 0 0 RB", 0)
        self.check_no_house("rooms 2 trades RB\ndoor 0 1 RB\ndoor 0 2 RB", 1)
        self.check_no_house("rooms 2 trades RB\ndoor 0 1 RB\ndoor 0 1 R", 1)
        self.check_no_house("rooms 2 trades RB\ndoor 0 1 G", 0)

    def test_numbers_of_four_digits(self):
        self.check_no_house("rooms 9999 trades RB", None)
        self.check_no_house("rooms 9999 trades RB\ndoor 9998 9997 RB", None)
        self.check_no_house("rooms 2 trades RB\ndoor 0 9999 RB", 0)
        self.check_no_house("rooms 9999 trades RB\ndoor 0 1 RB\ndoor 9999 1 RB", 1)
        self.check_line(parse_house, "rooms 10000 trades RB", 0)
        self.check_line(parse_house, "rooms 2 trades RB\ndoor 0 10000 RB", 1)

    def test_the_form_comes_before_the_house(self):
        self.check_line(parse_house, "rooms 0 trades RB\ndoor", 1)
        self.check_line(parse_house, "rooms 2 trades RB\ndoor 0 0 RB\ndoor 0 1 RB\n", 3)

    def test_more_letters_than_a_house_has(self):
        self.assertEqual(parse_house("rooms 1 trades ABCDEFG").trades, "ABCDEFG")
        self.assertEqual(parse_house("rooms 2 trades RB\ndoor 0 1 " + "RB" * 9).doors[0][2], "RB" * 9)


class Standings(InvalidForms):

    def test_format(self):
        standing = Standing([("R", 0), ("*", 12), ("B", 3)], [1, 0, 11])
        self.assertEqual(format_standing(standing), "hands R0 *12 B3 places 1 0 11")

    def test_format_of_nothing(self):
        self.assertEqual(format_standing(Standing([], [])), "hands places")
        self.assertEqual(format_standing(Standing([], [4])), "hands places 4")
        self.assertEqual(format_standing(Standing([("Z", 9999)], [])), "hands Z9999 places")

    def test_parse(self):
        standing = parse_standing("hands R0 *12 B3 places 1 0 11")
        self.assertIsInstance(standing, Standing)
        self.assertEqual(plain(standing), ("standing", (("R", 0), ("*", 12), ("B", 3)), (1, 0, 11)))

    def test_parse_of_nothing(self):
        self.assertEqual(plain(parse_standing("hands places")), ("standing", (), ()))
        self.assertEqual(plain(parse_standing("hands places 4")), ("standing", (), (4,)))
        self.assertEqual(plain(parse_standing("hands A7 places")), ("standing", (("A", 7),), ()))

    def test_written_and_read_again(self):
        for _, standing in samples(32, 60, signs="RBXYZ*", most_hands=9, longest=12):
            self.assertEqual(plain(parse_standing(format_standing(standing))), plain(standing))

    def test_a_standing_that_fits_no_house(self):
        text = "hands Q9999 Z0 A1234 places 9999 0 7"
        self.assertEqual(plain(parse_standing(text)), (
            "standing", (("Q", 9999), ("Z", 0), ("A", 1234)), (9999, 0, 7),
        ))
        self.assertEqual(format_standing(parse_standing(text)), text)

    def test_faulty_texts(self):
        for text in (
            "", " ", "hands", "places", "hands R0", "places 0", "places hands", "hands places ", " hands places",
            "hands  places", "hands places  1", "hands places 1 ", "hands R0  places 1", "hands places\n",
            "hands places 1\n", "\nhands places", "hands\nplaces", "hands R0 places 1\n2", "Hands places",
            "hands Places", "hands places places", "hands R0 places 1 places 2", "hands R0 places R1",
            "hands R places 1", "hands 0 places 1", "hands RB0 places 1", "hands r0 places 1",
            "hands **1 places", "hands R-1 places", "hands R+1 places", "hands R01 places", "hands R00 places",
            "hands R12345 places", "hands R00000 places", "hands places -1", "hands places +1",
            "hands places 01", "hands places 12345", "hands places 00", "hands places x", "hands 0R places",
            "hands R 0 places", "hands @1 places", "hands [1 places", "hands R0 hands places",
            "hands,places", "hands R0,B1 places", "hands places 1,2", "hands R0places 1", "handsR0 places",
        ):
            self.check_line(parse_standing, text, 0)

    def test_other_signs(self):
        for sign in OTHER_SIGNS:
            for text in (
                f"hands R{sign} places 1", f"hands {sign}0 places 1", f"hands R0 places {sign}",
                f"hands R0 places 1{sign}", f"hands{sign}places", f"hands R0{sign} places 1",
            ):
                self.check_line(parse_standing, text, 0)


class WrittenRuns(InvalidForms):

    def test_format(self):
        self.assertEqual(format_run(Run([(0, 1), (12, 0), (3, 9999)])), "0:1 12:0 3:9999")
        self.assertEqual(format_run(Run([(0, 0)])), "0:0")

    def test_the_empty_run(self):
        self.assertEqual(format_run(Run([])), "")
        self.assertIsInstance(parse_run(""), Run)
        self.assertEqual(parse_run("").deeds, ())

    def test_parse(self):
        run = parse_run("0:1 12:0 3:9999")
        self.assertIsInstance(run, Run)
        self.assertEqual(run.deeds, ((0, 1), (12, 0), (3, 9999)))

    def test_written_and_read_again(self):
        for house, standing in samples(33, 40):
            run = Run(slow_deeds(house, standing))
            self.assertEqual(plain(parse_run(format_run(run))), plain(run))

    def test_faulty_texts(self):
        for text in (
            " ", "\n", "0:1 ", " 0:1", "0:1  1:0", "0:1\n", "0:1\n1:0", "\n0:1", "0", ":", "0:", ":0", "0:1:2",
            "0:1:", ":0:1", "0::1", "0;1", "0,1", "0 :1", "0: 1", "-1:0", "0:-1", "+1:0", "0:+1", "00:1", "0:01",
            "12345:0", "0:12345", "00000:0", "R:0", "0:R", "R0:1", "0:1 1", "0:1 x:0", "0x1:0", "1_0:0",
            "0:1\t1:0", "0:1,1:0",
        ):
            self.check_line(parse_run, text, 0)

    def test_other_signs(self):
        for sign in OTHER_SIGNS:
            for text in (sign, f"{sign}:0", f"0:{sign}", f"0:1{sign}", f"0:1{sign}1:0"):
                self.check_line(parse_run, text, 0)


if __name__ == "__main__":
    unittest.main()
