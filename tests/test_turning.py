"""Promise [12]: moved, turned and renamed houses, and the stand of all others."""

import unittest

from swaykeep.errors import NoOrder, NoStand, NoSwell
from swaykeep.houses import House
from swaykeep.pulls import span, wants
from swaykeep.turning import moved, others, renamed, turned
from tests.samples import BIG, STRANGE, Refusals, all_of, all_stands, orders, slow_wants, some_houses

HOUSE = House(((3, 1), (4, -2), (0, -1)), ((2, 0, 9), (0, 2, 1), (1, 0, 3)))


class MovedTest(Refusals, unittest.TestCase):
    def test_numbers_are_more(self):
        self.assertEqual(House(((8, 6), (9, 3), (5, 4)), HOUSE.helps()), moved(HOUSE, 5))
        self.assertEqual(House(((3 - BIG, 1 - BIG),)), moved(House(((3, 1),)), -BIG))
        self.assertEqual(HOUSE, moved(HOUSE, 0))

    def test_spans_are_more(self):
        for house in some_houses(15):
            for stand in all_stands(house):
                low_high = span(house, stand)
                if low_high is not None:
                    low_high = tuple(end if end is None else end + BIG for end in low_high)
                self.assertEqual(low_high, span(moved(house, BIG), stand))

    def test_of_no_whole_number(self):
        for thing in STRANGE:
            self.refused(NoSwell, {"swell": thing}, lambda: moved(HOUSE, thing))


class TurnedTest(unittest.TestCase):
    def test_numbers(self):
        self.assertEqual(House(((11, 9), (2, -4), (2, 1)), HOUSE.helps()), turned(HOUSE))
        self.assertEqual(House(((-1, -3),)), turned(House(((3, 1),))))

    def test_turned_twice(self):
        for house in some_houses(30):
            self.assertEqual(house, turned(turned(house)))

    def test_wants_go_over(self):
        for house in some_houses(20):
            for stand in all_stands(house):
                for swell in range(-20, 14):
                    up, down = slow_wants(house, stand, swell)
                    self.assertEqual((down, up), wants(turned(house), others(house, stand), -swell))


class RenamedTest(Refusals, unittest.TestCase):
    def test_latches_and_helps(self):
        house = renamed(HOUSE, (2, 0, 1))
        self.assertEqual(((0, -1), (3, 1), (4, -2)), house.latches())
        self.assertEqual(((0, 1, 9), (1, 0, 1), (2, 1, 3)), house.helps())
        self.assertEqual(HOUSE, renamed(HOUSE, (0, 1, 2)))

    def test_latch_k_is_latch_order_k(self):
        for house in some_houses(20):
            for order in orders(house, 4):
                other = renamed(house, order)
                for stand in all_stands(other):
                    there = tuple(sorted(order[latch] for latch in stand))
                    told = [sorted(order[latch] for latch in side) for side in wants(other, stand, -2)]
                    self.assertEqual(list(slow_wants(house, there, -2)), told)

    def test_orders_of_anything(self):
        wrong = (*STRANGE, (), (0,), (0, 1), (0, 1, 1), (0, 1, 3), (0, 1, 2, 2), (0, 1, 2, 3), [0, 1, 2],
                 (0, True, 2), (False, 1, 2), (0, 1, 2.0), (-1, 0, 1), (0, 1, "2"), (0, 1, (2,)), (BIG, 1, 2))
        for thing in wrong:
            self.refused(NoOrder, {"order": thing}, lambda: renamed(HOUSE, thing))

    def test_truths_are_no_order_of_two(self):
        house = House(((1, 0), (2, 0)))
        self.refused(NoOrder, {"order": (True, False)}, lambda: renamed(house, (True, False)))


class OthersTest(Refusals, unittest.TestCase):
    def test_all_others(self):
        self.assertEqual((0, 1, 2), others(HOUSE, ()))
        self.assertEqual((), others(HOUSE, (0, 1, 2)))
        self.assertEqual((0, 2), others(HOUSE, (1,)))
        for house in some_houses(10):
            for stand in all_stands(house):
                self.assertEqual(all_of(house), tuple(sorted(stand + others(house, stand))))

    def test_no_stand(self):
        for thing in (*STRANGE, (3,), (-1,), (1, 0), (0, 0), [0]):
            self.refused(NoStand, {"stand": thing}, lambda: others(HOUSE, thing))


if __name__ == "__main__":
    unittest.main()
