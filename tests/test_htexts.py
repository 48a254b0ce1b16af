"""Promise [13]: texts of houses and stands."""

import unittest

from swaykeep.errors import NoHouse, NoStand, NoText
from swaykeep.houses import House
from swaykeep.htexts import read_house, read_stand, show_house, show_stand
from tests.samples import BIG, STRANGE, Refusals, all_stands, some_house, some_houses

NO_NUMBERS = ("", "-", "+1", "01", "-01", "00", "-0", "--1", "1.0", "1_0", "0x1", "a", "1a", "\u0661", "\u00b2", "1\t",
              "1\r", "1 ", " 1", "None", "True", "1e3")


class HouseTextTest(Refusals, unittest.TestCase):
    def no_text(self, at, text):
        self.refused(NoText, {"at": at}, lambda: read_house(text))

    def no_house(self, what, number, text):
        self.refused(NoHouse, {"what": what, "number": number}, lambda: read_house(text))

    def test_rows(self):
        house = House(((3, 1), (0, -2)), ((1, 0, 9), (0, 1, 1)))
        self.assertEqual("latch 3 1\nlatch 0 -2\nhelp 0 1 1\nhelp 1 0 9\n", show_house(house))
        self.assertEqual("latch 1 0\n", show_house(House(((1, 0),))))

    def test_read_back_is_the_same(self):
        for house in (*some_houses(40), some_house(1, 14, 40), House(((10 * BIG - 1, -10 * BIG + 1),))):
            self.assertEqual(house, read_house(show_house(house)))
            self.assertEqual(show_house(house), show_house(read_house(show_house(house))))

    def test_helps_in_any_order(self):
        text = "latch 3 1\nlatch 0 -2\nhelp 1 0 9\nhelp 0 1 1\n"
        self.assertEqual(House(((3, 1), (0, -2)), ((0, 1, 1), (1, 0, 9))), read_house(text))

    def test_no_text(self):
        for thing in STRANGE:
            if not isinstance(thing, str):
                self.no_text(1, thing)

    def test_text_without_signs_is_a_house_without_latches(self):
        self.no_house("latches", None, "")

    def test_first_row_of_no_such_form(self):
        for row in ("", " ", "latch", "latch 1", "latch 1 0 0", "latch  1 0", " latch 1 0", "latch 1 0 ", "Latch 1 0",
                    "help 0 1", "help 0 1 1 1", "help", "latch\t1 0", "latch 1,0", "lend 0 1 1", "latch 1 0\r"):
            self.no_text(1, f"{row}\n")
            self.no_text(3, f"latch 1 0\nlatch 1 0\n{row}\nlatch\n")

    def test_numbers_of_no_such_form(self):
        for number in NO_NUMBERS:
            self.no_text(2, f"latch 1 0\nlatch {number} -9\n")
            self.no_text(2, f"latch 1 0\nlatch 9 {number}\n")
            self.no_text(3, f"latch 1 0\nlatch 1 0\nhelp {number} 1 1\n")
            self.no_text(3, f"latch 1 0\nlatch 1 0\nhelp 0 {number} 1\n")
            self.no_text(3, f"latch 1 0\nlatch 1 0\nhelp 0 1 {number}\n")

    def test_latch_behind_a_help(self):
        self.no_text(4, "latch 1 0\nlatch 1 0\nhelp 0 1 1\nlatch 1 0\n")

    def test_last_row_without_its_end(self):
        self.no_text(1, "latch 1 0")
        self.no_text(2, "latch 1 0\nlatch 1 0")
        self.no_text(2, "latch 1 0\nx")
        self.no_text(1, "x\nlatch 1 0")
        self.no_text(1, "\n")
        self.no_text(2, "latch 1 0\n\n")
        self.no_text(2, "latch 1 0\n ")

    def test_other_line_ends_are_none(self):
        for end in ("\r\n", "\r", "\x0b", "\x0c", "\x1c", "\x85", "\u2028"):
            self.no_text(1, f"latch 1 0{end}latch 1 0{end}")

    def test_form_goes_ahead_of_the_house(self):
        self.no_text(2, "latch 0 0\nlatch\n")
        self.no_text(16, "latch 1 0\n" * 15 + "x\n")

    def test_then_a_house(self):
        self.no_house("latch", 1, "latch 1 0\nlatch 0 0\n")
        self.no_house("latch", 0, "latch -3 -2\n")
        self.no_house("latches", None, "latch 1 0\n" * 15)
        self.no_house("latches", None, "help 0 1 1\n")
        self.no_house("help", 0, "latch 1 0\nhelp 0 1 1\n")
        for row in ("help -1 0 1", "help 0 0 1", "help 0 2 1", "help 0 1 0", "help 0 1 10", "help 0 1 -1",
                    "help 1 0 9"):
            self.no_house("help", 1, f"latch 1 0\nlatch 1 0\nhelp 1 0 9\n{row}\n")

    def test_rows_left_out_and_told_twice(self):
        self.no_house("help", 1, "latch 1 0\nlatch 1 0\nhelp 0 1 1\nhelp 0 1 2\n")
        self.no_house("help", 0, "latch 1 0\nlatch 1 0\nhelp 0 2 1\n")
        self.assertEqual(2, len(read_house("latch 1 0\nlatch 1 0\n")))


class StandTextTest(Refusals, unittest.TestCase):
    def test_numbers_parted_by_blanks(self):
        self.assertEqual("-", show_stand(()))
        self.assertEqual("0", show_stand((0,)))
        self.assertEqual("0 3 13", show_stand((0, 3, 13)))

    def test_read_back_is_the_same(self):
        for house in some_houses(10):
            for stand in all_stands(house):
                self.assertEqual(stand, read_stand(show_stand(stand)))
        self.assertEqual((3, 99, BIG), read_stand(f"3 99 {BIG}"))
        self.assertIs(tuple, type(read_stand("3 4")))

    def test_any_other_text(self):
        for thing in STRANGE:
            if not isinstance(thing, str) or thing == "":
                self.refused(NoText, {"at": 1}, lambda: read_stand(thing))
        for text in (*NO_NUMBERS, "1 1", "1 0", "-1", "0 -1", "0  1", "0 1\n", "0\n1", "- 1", "1 -", "--", "0,1", "\n",
                     "-\n", " -", "0 1 2 2"):
            if text != "-":
                self.refused(NoText, {"at": 1}, lambda: read_stand(text))

    def test_no_stand_is_not_written(self):
        for thing in (*STRANGE, (1, 0), (0, 0), (-1,), [0, 1]):
            self.refused(NoStand, {"stand": thing}, lambda: show_stand(thing))


if __name__ == "__main__":
    unittest.main()
