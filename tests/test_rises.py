"""Promises [76] to [79]: closed swings, rises, and how many are up by rises."""

import unittest

from swaykeep.apart import counts
from swaykeep.errors import NoHistory, NoSwell, NotAlike, TooMany
from swaykeep.falls import floor, roof
from swaykeep.houses import House
from swaykeep.legs import bears, leg, led
from swaykeep.plain import plain_house
from swaykeep.pulls import is_settled
from swaykeep.reach import reached
from swaykeep.rises import closed_swings, counted, first_rise, rises
from swaykeep.turning import moved
from tests.samples import BIG, STRANGE, Numbers, Refusals, all_of, slow_leg, some_history, some_house, some_houses

HOUSE = House(((3, 1), (5, 2)), ((0, 1, 1),))
# 1, once up, holds 0 up, and 0 holds 1: so between -1 and 3 () rises by one, (0, 1) by none
UNLIKE = House(((3, 0), (14, 3)), ((0, 1, 9), (1, 0, 2)))
# between 2 and 3 () rises by one, (0, 1), settled from 2 on, by none
NARROW = House(((3, 2), (14, 3)), ((0, 1, 9), (1, 0, 1)))
# 2, once up, holds 1 up and lets 3 up; (1, 2) rises by two from 0 on, first swings by one from 1 on
BETWEEN = House(((3, 2), (3, 0), (6, -1), (12, 11)), ((2, 1, 9), (2, 3, 9)))
# (0, 3) rises by one from 0 to 3, the first swing by two; at 4 the next ones go up
AT_THE_END = House(((4, -1), (5, 0), (3, 1), (3, 1), (4, 2)), ((4, 3, 1), (4, 0, 1), (0, 3, 2)))
# an island that rest does not have: (0,) is settled from 0 to 1 and would rise by none there
ISLAND = House(((4, -1), (9, 2)), ((0, 1, 7), (1, 0, 9)))
WIDE_APART = House(((101, 100), (5, 0)))
ASKED = (lambda house: first_rise(house, 0, 1), lambda house: closed_swings(house, 0, 1), rises,
         lambda house: counted(house, [0]))


def houses():
    few = [some_house(seed, 2 + seed % 3, seed % 4) for seed in range(60)]
    plain = [plain_house([(3, 1, 1)]), plain_house([(-2, -6, 2), (1, -3, 1), (2, -5, 1)]),
             House(((4, -5), (2, -5), (2, -3), (1, -2)))]
    return [*few, *plain, HOUSE, UNLIKE, ISLAND]


def narrow_houses(many):
    """Small houses of latches that go up and down near one another, and help much."""
    found = []
    for seed in range(many):
        numbers = Numbers(seed)
        downs = [numbers.between(-2, 3) for _ in range(2 + seed % 3)]
        pairs = tuple((down + numbers.between(1, 4), down) for down in downs)
        found.append(House(pairs, tuple((one, other, (1, 1, 2, 3)[numbers.below(4)]) for one in range(len(pairs))
                                        for other in range(len(pairs)) if one != other and numbers.below(2))))
    return found


def slow_closed(house, low, high):
    """All stands of rest that are settled at low and bear high."""
    return sorted(stand for _, stand in reached(house)
                  if is_settled(house, stand, low) and bears(house, stand, low, high))


def rise_of(house, stand, low, high):
    return len(leg(house, stand, low, high)) - len(stand)


def slow_rises(house):
    """For all low below high from the floor to the roof the rises of all closed swings."""
    low, high = floor(house), roof(house)
    return {(near, far): sorted({rise_of(house, stand, near, far) for stand in slow_closed(house, near, far)})
            for near in range(low, high) for far in range(near + 1, high + 1)}


class SwingsTest(Refusals, unittest.TestCase):
    def test_plain_ones(self):
        self.assertEqual((1, 4), (floor(HOUSE), roof(HOUSE)))
        self.assertEqual([()], closed_swings(HOUSE, 1, 3))
        self.assertEqual([(0,), (0, 1)], closed_swings(HOUSE, 2, 3))
        self.assertEqual(1, first_rise(HOUSE, 1, 3))
        self.assertEqual(2, first_rise(HOUSE, 1, 4))
        self.assertEqual(0, first_rise(HOUSE, 2, 4))
        self.assertEqual([(), (0, 1)], closed_swings(UNLIKE, -1, 3))
        self.assertEqual(1, first_rise(UNLIKE, -1, 3))

    def test_of_rest_alone(self):
        self.assertTrue(is_settled(ISLAND, (0,), 0) and bears(ISLAND, (0,), 0, 1))
        self.assertNotIn((0,), closed_swings(ISLAND, 0, 1))

    def test_beside_all_stands(self):
        for house in houses():
            low, high = floor(house), roof(house)
            for near in range(low - 3, high + 3, 2):
                for far in range(near + 1, high + 4, 3):
                    told = closed_swings(house, near, far)
                    self.assertEqual(slow_closed(house, near, far), told)
                    begin = min(low, near)
                    first = led(house, (), [begin, far, near])[-1]
                    self.assertIn(first, told)
                    self.assertEqual(rise_of(house, first, near, far), first_rise(house, near, far))

    def test_below_the_floor_and_above_the_roof(self):
        for house in houses():
            low, high = floor(house), roof(house)
            every = all_of(house)
            self.assertEqual([()], closed_swings(house, low - BIG, low))
            self.assertEqual(0, first_rise(house, low - BIG, low))
            self.assertEqual([()], closed_swings(house, low - BIG, high + BIG))
            self.assertEqual(len(house), first_rise(house, low - 7, high + BIG))
            self.assertEqual([every], closed_swings(house, high, high + 1))
            self.assertEqual(0, first_rise(house, high, high + 1))

    def test_refused(self):
        for asked in (first_rise, closed_swings):
            for thing in STRANGE:
                if thing.__class__ is not int:
                    self.refused(NoSwell, {"swell": thing}, lambda: asked(HOUSE, thing, None))
                    self.refused(NoSwell, {"swell": thing}, lambda: asked(HOUSE, 0, thing))
            for low, high in ((0, 0), (1, 0), (3, -BIG), (9, 9)):
                self.refused(NoSwell, {"swell": high}, lambda: asked(HOUSE, low, high))

    def test_great_houses_are_refused_ahead_of_all(self):
        nine = some_house(1, 9, 3)
        for asked in ASKED:
            self.refused(TooMany, {"limit": 8}, lambda: asked(nine))
            self.refused(TooMany, {"limit": 8}, lambda: asked(House(((BIG, -BIG),) * 9)))
            self.refused(TooMany, {"limit": 100}, lambda: asked(WIDE_APART))
            self.refused(TooMany, {"limit": 100}, lambda: asked(House(((BIG, -BIG),))))
        for asked in (first_rise, closed_swings):
            self.refused(TooMany, {"limit": 8}, lambda: asked(nine, None, None))
            self.refused(TooMany, {"limit": 100}, lambda: asked(WIDE_APART, 1, None))
        self.refused(TooMany, {"limit": 8}, lambda: counted(nine, None))
        for history in ([None], []):
            self.refused(TooMany, {"limit": 8}, lambda: counted(nine, history))
            self.refused(TooMany, {"limit": 100}, lambda: counted(WIDE_APART, history))

    def test_a_hundred_apart(self):
        house = House(((100, 99), (5, 0)))
        self.assertEqual((0, 100), (floor(house), roof(house)))
        told = rises(house)
        self.assertEqual(5050, len(told))
        self.assertEqual([(0, 1, 0), (0, 2, 0), (0, 3, 0), (0, 4, 0), (0, 5, 1)], told[:5])
        self.assertEqual((99, 100, 1), told[-1])
        self.assertEqual([(low + BIG, high + BIG, rise) for low, high, rise in told], rises(moved(house, BIG)))


class RisesTest(Refusals, unittest.TestCase):
    def test_plain_ones(self):
        self.assertEqual([(1, 2, 0), (1, 3, 1), (1, 4, 2), (2, 3, 0), (2, 4, 0), (3, 4, 0)], rises(HOUSE))
        self.refused(NotAlike, {"low": -1, "high": 3}, lambda: rises(UNLIKE))
        self.refused(NotAlike, {"low": 2, "high": 3}, lambda: rises(NARROW))
        self.refused(NotAlike, {"low": 1, "high": 3}, lambda: rises(BETWEEN))
        self.refused(NotAlike, {"low": 0, "high": 3}, lambda: rises(AT_THE_END))

    def test_beside_all_closed_swings(self):
        alike = unlike = 0
        for house in [*houses(), *some_houses(25, 4), *narrow_houses(150), NARROW, BETWEEN, AT_THE_END]:
            found = slow_rises(house)
            wrong = sorted(pair for pair, told in found.items() if len(told) > 1)
            if wrong:
                unlike += 1
                low, high = wrong[0]
                self.refused(NotAlike, {"low": low, "high": high}, lambda: rises(house))
                self.refused(NotAlike, {"low": low, "high": high}, lambda: counted(house, [0]))
            else:
                alike += 1
                told = rises(house)
                self.assertEqual([(low, high, worth[0]) for (low, high), worth in sorted(found.items())], told)
                self.assertEqual(list, told.__class__)
        self.assertTrue(alike > 40 and unlike > 30, (alike, unlike))

    def test_beside_all_histories_of_a_few_turns(self):
        tried = 0
        for house in [*houses()[::4], HOUSE, UNLIKE]:
            low, high = floor(house), roof(house)
            if high - low > 14 or len(house) > 3:
                continue
            tried += 1
            # all that stand at a swell behind histories of some swells
            level = {((), low)}
            seen = set(level)
            for _ in range(4):
                level = {(slow_leg(house, stand, at, to), to) for stand, at in level for to in range(low, high + 1)}
                seen |= level
            found = {}
            for stand, at in seen:
                for far in range(at + 1, high + 1):
                    there = slow_leg(house, stand, at, far)
                    if slow_leg(house, there, far, at) == stand:
                        found.setdefault((at, far), set()).add(len(there) - len(stand))
            wrong = sorted(pair for pair, worth in found.items() if len(worth) > 1)
            if wrong:
                self.refused(NotAlike, {"low": wrong[0][0], "high": wrong[0][1]}, lambda: rises(house))
            else:
                self.assertEqual(sorted((*pair, *worth) for pair, worth in found.items()), rises(house))
        self.assertGreater(tried, 5)

    def test_of_plain_houses(self):
        # a latch rises in each swing from its down-number or below to its up-number or above, and in no other
        for seed in range(30):
            numbers = Numbers(seed)
            pairs = tuple((numbers.between(1, 9), numbers.between(-9, 0)) for _ in range(1 + seed % 8))
            house = House(pairs)
            self.assertEqual([(low, high, sum(down >= low and up <= high for up, down in pairs))
                              for low in range(floor(house), roof(house)) for high in range(low + 1, roof(house) + 1)],
                             rises(house))

    def test_told_anew(self):
        rises(HOUSE).append(None)
        closed_swings(HOUSE, 1, 3).append(None)
        self.assertEqual((6, 1), (len(rises(HOUSE)), len(closed_swings(HOUSE, 1, 3))))


class CountedTest(Refusals, unittest.TestCase):
    def test_beside_counts(self):
        asked = 0
        for seed, house in enumerate(houses()):
            low, high = floor(house), roof(house)
            for many in range(4):
                history = some_history(seed * 4 + many, 1 + seed % 9, low - 4, high + 4)
                if any(len(worth) > 1 for worth in slow_rises(house).values()):
                    self.assertRaises(NotAlike, counted, house, history)
                else:
                    asked += 1
                    self.assertEqual(counts(house, (), [low, *history])[-1], counted(house, history))
        self.assertGreater(asked, 150)

    def test_long_and_far(self):
        house = House(((30, -30), (20, -35), (25, -9), (7, 3), (11, 0), (14, -20)))
        for seed in range(20):
            history = some_history(seed, 300, -45, 45)
            self.assertEqual(counts(house, (), [-BIG, *history])[-1], counted(house, history))
        self.assertEqual(6, counted(house, [-BIG, BIG]))
        self.assertEqual(0, counted(house, [BIG, -BIG]))

    def test_refused(self):
        for thing in (None, 5, "ab", {0: 1}):
            self.refused(NoHistory, {"place": 0}, lambda: counted(HOUSE, thing))
        self.refused(NoHistory, {"place": 2}, lambda: counted(HOUSE, [0, 5, None, True]))
        self.refused(NoHistory, {"place": 1}, lambda: counted(UNLIKE, [0, False]))
        self.refused(NotAlike, {"low": -1, "high": 3}, lambda: counted(UNLIKE, [0, 5]))

    def test_no_history_is_refused(self):
        for house in [*houses(), *narrow_houses(20)]:
            for history in ([], ()):
                self.refused(NoHistory, {"place": 0}, lambda: counted(house, history))

    def test_no_history_is_refused_ahead_of_unlike_rises(self):
        for house in (UNLIKE, NARROW, BETWEEN, AT_THE_END):
            self.assertRaises(NotAlike, counted, house, [0])
            self.refused(NoHistory, {"place": 0}, lambda: counted(house, []))

    def test_one_swell(self):
        self.assertEqual([0, 0, 1, 2, 2], [counted(HOUSE, [swell]) for swell in (-BIG, 2, 3, 4, BIG)])

    def test_the_history_stays(self):
        history = [2, 2, 3, 1, 4]
        counted(HOUSE, history)
        self.assertEqual([2, 2, 3, 1, 4], history)


if __name__ == "__main__":
    unittest.main()
