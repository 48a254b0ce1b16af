"""Promises [43] and [44]: the kinds of mends, and the stand that a mend leaves."""

import unittest

from swaykeep.errors import NoMend, NoStand, NoSwell, Unsettled
from swaykeep.houses import House
from swaykeep.mends import kind_of_mend, mended
from swaykeep.turning import moved
from tests.samples import (BIG, STRANGE, Numbers, Refusals, orders, slow_row, slow_settled, some_house, some_houses)

OLD = House(((3, 1), (5, 2)), ((0, 1, 2),))


def eased(house, seed, ways=1):
    """A house in which some numbers are less and some helps more than in this one (more and less: ways -1)."""
    numbers = Numbers(seed)
    latches = []
    for up, down in house.latches():
        lower = numbers.below(5) * ways
        latches.append((up - lower, down - lower - (numbers.below(3) if ways > 0 else 0)))
    helps = []
    for one, other, many in house.helps():
        many = many + numbers.below(4) * ways
        if many > 0:
            helps.append((one, other, min(many, 9)))
    return House(tuple(latches), tuple(helps))


class KindTest(Refusals, unittest.TestCase):
    def test_plain_ones(self):
        pairs = ((3, 1), (5, 2))
        for new, kind in (
                (House(pairs, ((0, 1, 2),)), "same"), (House(pairs, ((0, 1, 3),)), "help"),
                (House(pairs, ((0, 1, 1),)), "hinder"), (House(pairs), "hinder"), (House(pairs, ((1, 0, 2),)), "both"),
                (House(pairs, ((1, 0, 2), (0, 1, 2))), "help"), (House(((2, 1), (5, 2)), ((0, 1, 2),)), "help"),
                (House(((3, 0), (5, 2)), ((0, 1, 2),)), "help"), (House(((4, 1), (5, 2)), ((0, 1, 2),)), "hinder"),
                (House(((3, 1), (5, 3)), ((0, 1, 2),)), "hinder"), (House(((2, 1), (6, 2)), ((0, 1, 2),)), "both"),
                (House(((2, 1), (5, 2)), ((0, 1, 1),)), "both"), (moved(OLD, 1), "hinder"), (moved(OLD, -1), "help"),
                (moved(OLD, 0), "same"), (moved(OLD, BIG), "hinder")):
            self.assertEqual(kind, kind_of_mend(OLD, new), (new.latches(), new.helps()))
            turned_about = {"help": "hinder", "hinder": "help"}.get(kind, kind)
            self.assertEqual(turned_about, kind_of_mend(new, OLD))

    def test_another_number_of_latches(self):
        self.refused(NoMend, {"what": "many", "number": 3}, lambda: kind_of_mend(OLD, House(((3, 1),) * 3)))
        self.refused(NoMend, {"what": "many", "number": 1}, lambda: kind_of_mend(OLD, House(((3, 1),))))


class MendedTest(Refusals, unittest.TestCase):
    def test_plain_ones(self):
        self.assertEqual((), mended(OLD, OLD, 2, ()))
        self.assertEqual((0, 1), mended(OLD, moved(OLD, -1), 2, ()))
        self.assertEqual((0, 1), mended(OLD, moved(OLD, -2), 2, ()))
        self.assertEqual((0, 1), mended(OLD, moved(OLD, -BIG), 2, ()))
        self.assertEqual((), mended(OLD, moved(OLD, 1), 2, ()))
        self.assertEqual((), mended(OLD, moved(OLD, 1), 2, (0,)))
        self.assertEqual((0,), mended(OLD, OLD, 2, (0,)))
        self.assertEqual((0,), mended(OLD, House(((3, 1), (5, 2))), 2, (0,)))
        self.assertEqual((0,), mended(OLD, House(((3, 1), (5, 2))), 2, (0, 1)))
        self.assertEqual((0, 1), mended(OLD, House(((3, 1), (5, 2)), ((0, 1, 3),)), 2, (0,)))

    def test_one_latch_at_a_time_in_several_orders(self):
        helped, hindered, moving = 0, 0, 0
        for seed, house in enumerate(some_houses(60)):
            for ways in (1, -1):
                new = eased(house, seed, ways)
                kind = kind_of_mend(house, new)
                self.assertIn(kind, ("same", "help" if ways > 0 else "hinder"))
                for swell in range(-12, 9, 3):
                    for stand in slow_settled(house, swell):
                        told = mended(house, new, swell, stand)
                        for order in orders(house, 3):
                            self.assertEqual(slow_row(new, stand, swell, order, ways > 0)[1], told)
                        near = [one for one in slow_settled(new, swell)
                                if (set(stand) <= set(one) if ways > 0 else set(one) <= set(stand))]
                        ends = [one for one in near if all(
                            set(one) <= set(two) if ways > 0 else set(two) <= set(one) for two in near)]
                        self.assertEqual([told], ends)
                        helped += ways > 0
                        hindered += ways < 0
                        moving += told != stand
        self.assertTrue(helped > 100 and hindered > 100 and moving > 50)

    def test_both(self):
        def refused(number, new):
            self.refused(NoMend, {"what": "both", "number": number}, lambda: mended(OLD, new, 2, (0,)))
        pairs = ((3, 1), (5, 2))
        refused(1, House(pairs, ((1, 0, 2),)))
        refused(1, House(pairs, ((1, 0, 9), (0, 1, 1))))
        refused(0, House(((4, 1), (4, 2)), ((0, 1, 2),)))
        refused(0, House(((3, 2), (5, 1)), ((0, 1, 2),)))
        refused(1, House(((2, 1), (6, 2)), ((0, 1, 2),)))
        refused(1, House(((3, 0), (5, 3)), ((0, 1, 2),)))
        refused(0, House(((4, 0), (6, 2)), ((0, 1, 2),)))
        three = House(((3, 1), (5, 2), (9, 4)), ((0, 1, 2), (0, 2, 3), (1, 2, 1)))
        fewer = House(((3, 1), (5, 2), (8, 4)), ((0, 1, 2), (0, 2, 3)))
        self.refused(NoMend, {"what": "both", "number": 2}, lambda: mended(three, fewer, 0, ()))

    def test_order_of_refusals(self):
        both = House(((3, 1), (5, 2)), ((1, 0, 2),))
        more = House(((3, 1),) * 3)
        for new in (both, more, OLD):
            for thing in (*STRANGE, (2,), (-1,), (1, 0), [0]):
                if not (isinstance(thing, tuple) and thing == ()):
                    self.refused(NoStand, {"stand": thing}, lambda: mended(OLD, new, None, thing))
            for thing in STRANGE:
                self.refused(NoSwell, {"swell": thing}, lambda: mended(OLD, new, thing, (0,)))
            self.refused(Unsettled, {"latch": 0, "swell": 1}, lambda: mended(OLD, new, 1, (0,)))
            self.refused(Unsettled, {"latch": 1, "swell": 9}, lambda: mended(OLD, new, 9, (0,)))
        self.refused(NoMend, {"what": "many", "number": 3}, lambda: mended(OLD, more, 2, (0,)))
        # settled in the new house alone is not enough, and in the old house alone is
        self.refused(Unsettled, {"latch": 0, "swell": 0}, lambda: mended(OLD, moved(OLD, -2), 0, (0,)))
        self.assertEqual((), mended(OLD, moved(OLD, 5), 2, (0,)))

    def test_great_houses(self):
        helps = tuple((a, b, 1 + (a * b) % 9) for a in range(14) for b in range(14) if a != b)
        house = House(tuple((100 * k, 100 * k - 50) for k in range(14)), helps)
        self.assertEqual(tuple(range(14)), mended(house, moved(house, -BIG), -100, ()))
        self.assertEqual((), mended(house, moved(house, BIG), 1300, tuple(range(14))))
        self.assertEqual("both", kind_of_mend(some_house(3, 14), some_house(4, 14)))


if __name__ == "__main__":
    unittest.main()
