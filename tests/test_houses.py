"""Promises [2], [6], [7] and [8]: houses and stands."""

import unittest

from swaykeep.errors import NoHouse, NoLatch
from swaykeep.houses import House, is_stand
from tests.samples import BIG, STRANGE, Refusals, all_stands, some_houses

NO_NUMBERS = (None, True, False, 1.0, "1", (1,), [1])


class HouseTest(Refusals, unittest.TestCase):
    def no_house(self, what, number, *things):
        self.refused(NoHouse, {"what": what, "number": number}, lambda: House(*things))

    def test_latches_and_helps_are_told(self):
        house = House(((3, 1), (4, -2), (0, -1)), ((2, 0, 9), (0, 2, 1), (0, 1, 3)))
        self.assertEqual(((3, 1), (4, -2), (0, -1)), house.latches())
        self.assertEqual(((0, 1, 3), (0, 2, 1), (2, 0, 9)), house.helps())
        self.assertEqual([3, 4, 0], [house.up_at(latch) for latch in range(3)])
        self.assertEqual([1, -2, -1], [house.down_at(latch) for latch in range(3)])

    def test_kinds_of_what_is_told(self):
        house = House(((3, 1), (4, -2)), ((1, 0, 9), (0, 1, 1)))
        for told in (house.latches(), house.helps(), *house.latches(), *house.helps()):
            self.assertIs(tuple, type(told))
        for told in (house.up_at(0), house.down_at(0), house.all_help(0), len(house)):
            self.assertIs(int, type(told))

    def test_helps_may_be_left_out(self):
        self.assertEqual((), House(((1, 0),)).helps())
        self.assertEqual(House(((1, 0),), ()), House(((1, 0),)))

    def test_all_help_is_all_that_is_lent_to_a_latch(self):
        house = House(((3, 1), (4, -2), (0, -1)), ((2, 0, 9), (0, 2, 1), (1, 0, 3)))
        self.assertEqual([12, 0, 1], [house.all_help(latch) for latch in range(3)])
        for house in some_houses(30):
            for latch in range(len(house)):
                lent = [many for _, other, many in house.helps() if other == latch]
                self.assertEqual(sum(lent), house.all_help(latch))

    def test_one_latch_and_fourteen_latches(self):
        self.assertEqual(1, len(House(((1, 0),))))
        self.assertEqual(14, len(House(((1, 0),) * 14)))

    def test_no_latches_too_many_and_no_tuple(self):
        self.no_house("latches", None, ())
        self.no_house("latches", None, ((1, 0),) * 15)
        for thing in STRANGE:
            if not isinstance(thing, tuple):
                self.no_house("latches", None, thing)
                self.no_house("latches", None, thing, None)
        self.no_house("latches", None, [(1, 0)])

    def test_first_latch_that_is_none(self):
        for thing in (*STRANGE, (), (1,), (1, 0, 0), [1, 0], (1, 1), (0, 1), ((1, 0),)):
            self.no_house("latch", 0, (thing,))
            self.no_house("latch", 1, ((1, 0), thing))
            self.no_house("latch", 2, ((1, 0), (0, -1), thing, thing), None)
        for thing in NO_NUMBERS:
            self.no_house("latch", 1, ((1, 0), (thing, -5)))
            self.no_house("latch", 1, ((1, 0), (5, thing)))

    def test_fifteen_wrong_latches_are_too_many_first(self):
        self.no_house("latches", None, (None,) * 15)

    def test_helps_that_are_no_tuple(self):
        for thing in STRANGE:
            if not isinstance(thing, tuple):
                self.no_house("helps", None, ((1, 0), (1, 0)), thing)
        self.no_house("helps", None, ((1, 0), (1, 0)), [(0, 1, 1)])

    def test_first_help_that_is_none(self):
        wrong = (*STRANGE, (), (0, 1), (0, 1, 1, 1), [0, 1, 1], (0, 0, 1), (1, 1, 1), (0, 1, 0), (0, 1, 10),
                 (0, 1, -1), (0, 2, 1), (2, 0, 1), (-1, 0, 1), (0, -1, 1))
        for thing in wrong:
            self.no_house("help", 0, ((1, 0), (1, 0)), (thing,))
            self.no_house("help", 1, ((1, 0), (1, 0)), ((1, 0, 9), thing, thing))
        for thing in NO_NUMBERS:
            for lending in ((thing, 0, 1), (thing, 1, 1), (0, thing, 1), (1, thing, 1), (0, 1, thing)):
                self.no_house("help", 0, ((1, 0), (1, 0)), (lending,))

    def test_help_of_one_and_of_nine(self):
        self.assertEqual(((0, 1, 1), (1, 0, 9)), House(((1, 0), (1, 0)), ((1, 0, 9), (0, 1, 1))).helps())

    def test_help_told_twice(self):
        self.no_house("help", 1, ((1, 0), (1, 0)), ((0, 1, 1), (0, 1, 1)))
        self.no_house("help", 2, ((1, 0), (1, 0)), ((0, 1, 1), (1, 0, 1), (0, 1, 2), (0, 1, 10)))

    def test_wrong_latch_goes_ahead_of_wrong_helps(self):
        self.no_house("latch", 0, ((0, 0),), None)
        self.no_house("latch", 0, ((0, 0),), ((0, 0, 0),))

    def test_no_latch_of_anything(self):
        house = House(((3, 1), (4, -2)))
        for thing in (*STRANGE, -1, 2, BIG, -BIG):
            for ask in (house.up_at, house.down_at, house.all_help):
                self.refused(NoLatch, {"latch": thing}, lambda: ask(thing))

    def test_big_numbers(self):
        house = House(((10 * BIG - 1, -10 * BIG + 1), (BIG + 1, BIG)))
        self.assertEqual(10 * BIG - 1, house.up_at(0))
        self.assertEqual(-10 * BIG + 1, house.down_at(0))

    def test_equal_where_latches_and_sorted_helps_are(self):
        house = House(((3, 1), (4, -2)), ((1, 0, 9), (0, 1, 1)))
        self.assertTrue(house == House(((3, 1), (4, -2)), ((0, 1, 1), (1, 0, 9))))
        self.assertFalse(house != House(((3, 1), (4, -2)), ((0, 1, 1), (1, 0, 9))))
        for other in (House(((3, 1), (4, -2))), House(((4, -2), (3, 1)), ((1, 0, 9), (0, 1, 1))),
                      House(((3, 1), (4, -2)), ((1, 0, 9), (0, 1, 2))), House(((3, 1), (4, -1)), house.helps())):
            self.assertFalse(house == other)
            self.assertTrue(house != other)

    def test_equal_to_nothing_else(self):
        house = House(((3, 1),))
        for thing in (*STRANGE, house.latches(), (house.latches(), house.helps()), repr(house)):
            self.assertFalse(house == thing)

    def test_repr(self):
        self.assertEqual("House(2, 1)", repr(House(((3, 1), (4, -2)), ((1, 0, 9),))))
        self.assertEqual("House(1, 0)", repr(House(((3, 1),))))


class StandTest(unittest.TestCase):
    def test_stands_of_a_house(self):
        for house in some_houses(8):
            for stand in all_stands(house):
                self.assertIs(True, is_stand(house, stand))

    def test_edges(self):
        house = House(((1, 0),) * 3)
        for stand in ((), (0,), (2,), (0, 1, 2)):
            self.assertIs(True, is_stand(house, stand))
        for thing in (*STRANGE, (3,), (-1,), (0, 0), (1, 0), (0, 1, 2, 3), (0, True), (BIG,), [0, 1], 0, 1):
            self.assertIs(False, is_stand(house, thing))


if __name__ == "__main__":
    unittest.main()
