"""Promise [48]: Keepers written as texts, and read back."""

import unittest

from swaykeep.errors import NoHouse, NoText
from swaykeep.houses import House
from swaykeep.htexts import show_house
from swaykeep.keepers import Keeper
from swaykeep.ktexts import read_keeper, show_keeper
from tests.samples import BIG, STRANGE, Refusals, slow_settled, some_history, some_houses

HOUSE = House(((3, 1), (5, 2)), ((0, 1, 1),))
ROWS = "latch 3 1\nlatch 5 2\nhelp 0 1 1\n"


class ShowTest(unittest.TestCase):
    def test_rows(self):
        keeper = Keeper(HOUSE, 0)
        self.assertEqual(ROWS + "base 0\nresidue 0\n", show_keeper(keeper))
        keeper.through([-3, 12, 1])
        self.assertEqual(ROWS + "base 0\nresidue 0 -3 12 1\n", show_keeper(keeper))
        keeper.through([4, 3])
        keeper.forget()
        keeper.to(2)
        self.assertEqual(ROWS + "base 3 0 1\nresidue 3 2\n", show_keeper(keeper))
        self.assertEqual("latch 3 1\nbase -3\nresidue -3\n", show_keeper(Keeper(House(((3, 1),)), -3)))
        self.assertEqual(f"latch 3 1\nbase {BIG} 0\nresidue {BIG}\n",
                         show_keeper(Keeper(House(((3, 1),)), BIG, stand=(0,))))

    def test_read_back(self):
        for seed, house in enumerate(some_houses(50)):
            for stand in slow_settled(house, -2):
                keeper = Keeper(house, -2, stand=stand)
                keeper.through(some_history(seed, 7))
                keeper.mark("a")
                text = show_keeper(keeper)
                again = read_keeper(text)
                self.assertEqual(keeper, again)
                self.assertEqual((house, keeper.stand_now(), keeper.swell_now(), keeper.base(), keeper.residue()),
                                 (again.house_now(), again.stand_now(), again.swell_now(), again.base(),
                                  again.residue()))
                self.assertEqual(([], 0, False), (again.marks(), len(again), again.undo()))
                self.assertEqual(text, show_keeper(again))
                self.assertIsInstance(again.base()[0], tuple)

    def test_great_ones(self):
        helps = tuple((a, b, 1 + (a * b) % 9) for a in range(14) for b in range(14) if a != b)
        house = House(tuple((100 * k, 100 * k - 50) for k in range(14)), helps)
        keeper = Keeper(house, -BIG)
        keeper.through([(-1) ** place * (BIG - place * 7) for place in range(1, 70)])
        self.assertEqual(69, len(keeper.residue()))
        self.assertEqual(keeper, read_keeper(show_keeper(keeper)))


class ReadTest(Refusals, unittest.TestCase):
    def no_text(self, at, text):
        self.refused(NoText, {"at": at}, lambda: read_keeper(text))

    def test_helps_in_any_order(self):
        text = "latch 3 1\nlatch 5 2\nhelp 1 0 2\nhelp 0 1 1\nbase 0\nresidue 0 1\n"
        self.assertEqual(((0, 1, 1), (1, 0, 2)), read_keeper(text).house_now().helps())

    def test_what_is_no_text(self):
        for thing in STRANGE:
            if not isinstance(thing, str):
                self.no_text(1, thing)

    def test_the_rows_of_the_house(self):
        self.refused(NoHouse, {"what": "latches", "number": None}, lambda: read_keeper(""))
        self.refused(NoHouse, {"what": "latches", "number": None}, lambda: read_keeper("base 0\nresidue 0\n"))
        self.refused(NoHouse, {"what": "latches", "number": None}, lambda: read_keeper("base x"))
        self.refused(NoHouse, {"what": "latch", "number": 1},
                     lambda: read_keeper("latch 3 1\nlatch 2 5\nbase 0\nresidue 0\n"))
        self.refused(NoHouse, {"what": "help", "number": 0},
                     lambda: read_keeper("latch 3 1\nhelp 0 1 1\nbase x\n"))
        self.no_text(2, "latch 3 1\nlatch 5\nbase 0\nresidue 0\n")
        self.no_text(1, "latch 3  1\nbase 0\nresidue 0\n")
        self.no_text(3, "latch 3 1\nhelp 0 1 1\nlatch 5 2\nbase 0\nresidue 0\n")
        # what does not begin with "base " is taken for a row of the house
        self.no_text(4, ROWS + "base\nresidue 0\n")
        self.no_text(4, ROWS + "Base 0\nresidue 0\n")
        self.no_text(4, ROWS + " base 0\nresidue 0\n")
        self.no_text(4, ROWS + "residue 0\nbase 0\n")
        self.no_text(4, ROWS + "\nbase 0\nresidue 0\n")
        self.no_text(4, ROWS + "latch 3")
        self.no_text(2, "latch 3 1\nlatch 5 2")

    def test_the_base(self):
        # one more than all where it lacks
        self.no_text(4, ROWS)
        self.no_text(2, "latch 3 1\n")
        for row in ("base ", "base  0", "base 0 ", "base x", "base 00", "base -0", "base +1", "base 0 x", "base 0,1",
                    "base 3 2", "base 3 -1", "base 3 1 0", "base 3 0 0", "base 9", "base 0 0", "base 3 1", "base \t0",
                    "base 0 00", "base 0\r", "base 1.0", "base ٣"):
            self.no_text(4, ROWS + row + "\nresidue 0\n")
            self.no_text(4, ROWS + row)
        self.no_text(4, ROWS + "base 0")
        self.no_text(5, ROWS + "base 0\n")
        self.no_text(4, ROWS + "base 9\nbase 0\nresidue 0\n")

    def test_the_residue(self):
        for row in ("residue", "residue ", "residue 1", "residue 1 0", "residue  0", "residue 0 ", "residue 0 0",
                    "residue 0 1 2", "residue 0 5 1 3 9", "residue 0 5 2 5", "residue 0 x", "residue 0 01", "Residue 0",
                    "base 0", "", "residue -0", "residue 0 5 0 5", "residue 0\t1", "latch 3 1", "residue 0 5 0 5 0"):
            self.no_text(5, ROWS + "base 0\n" + row + "\n")
            self.no_text(5, ROWS + "base 0\n" + row)
        self.no_text(5, ROWS + "base 0\nresidue 0")
        self.assertEqual([0, 5, 0], read_keeper(ROWS + "base 0\nresidue 0 5 0\n").residue())

    def test_a_row_more(self):
        for more in ("\n", "residue 0\n", "x", " ", "help 0 1 1\n", "base 0\nresidue 0\n"):
            self.no_text(6, ROWS + "base 0\nresidue 0\n" + more)
        self.no_text(3, "latch 3 1\nbase 0\nbase 0\nresidue 0\n")

    def test_each_row_left_out_or_told_twice(self):
        keeper = Keeper(HOUSE, 0)
        keeper.through([4, 3])
        keeper.forget()
        keeper.to(2)
        rows = show_keeper(keeper).splitlines(keepends=True)
        self.assertEqual(keeper, read_keeper("".join(rows)))
        self.no_text(4, "".join(rows[:3] + rows[4:]))
        self.no_text(5, "".join(rows[:4]))
        self.no_text(5, "".join(rows[:4] + rows[3:]))
        self.no_text(6, "".join(rows + rows[4:]))
        self.refused(NoHouse, {"what": "help", "number": 1}, lambda: read_keeper("".join(rows[:3] + rows[2:])))
        self.refused(NoHouse, {"what": "help", "number": 0}, lambda: read_keeper("".join(rows[1:])))
        # without its help the base's stand is settled all the same, so another house is read
        self.assertEqual((), read_keeper("".join(rows[:2] + rows[3:])).house_now().helps())
        self.no_text(5, "".join(rows)[:-1])
        self.assertEqual(show_house(HOUSE), "".join(rows[:3]))


if __name__ == "__main__":
    unittest.main()
