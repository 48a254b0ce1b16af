"""Promises [57] to [59]: ends, deepest dips, highest peaks, widenings."""

import unittest

from swaykeep.dips import deepest_dip, ends, highest_peak, widening
from swaykeep.errors import NoSpan, NoStand
from swaykeep.falls import floor, roof
from swaykeep.houses import House
from swaykeep.legs import bears, leg
from swaykeep.pulls import is_settled, span
from tests.samples import (BIG, STRANGE, Numbers, Refusals, all_of, all_stands, some_house, some_houses)

HOUSE = House(((3, 1), (5, 2)), ((0, 1, 1),))
NEST = House(((10, -9), (8, -9), (8, -7), (6, -7), (6, -5), (4, -5), (4, -3), (2, -3), (11, -11)))
ASKED = (ends, deepest_dip, highest_peak, widening)


def settled_stands(houses):
    return [(house, stand) for house in houses for stand in all_stands(house) if span(house, stand) is not None]


def slow_ends(house, stand):
    low, high = span(house, stand)
    return floor(house) if low is None else low, roof(house) if high is None else high


def slow_dip(house, stand):
    """Each whole swell from the floor to the lower end is tried."""
    low, high = slow_ends(house, stand)
    for swell in range(floor(house), low):
        if bears(house, stand, high, swell):
            return swell, leg(house, stand, high, swell)
    return None


def slow_peak(house, stand):
    low, high = slow_ends(house, stand)
    for swell in range(roof(house), high, -1):
        if bears(house, stand, low, swell):
            return swell, leg(house, stand, low, swell)
    return None


def slow_widening(house, stand, way):
    found = []
    while True:
        one = slow_dip(house, stand) if way == "dip" else slow_peak(house, stand)
        if one is None:
            return found
        if len(found) > 1 and not (one[0] < found[-2][0] if way == "dip" else one[0] > found[-2][0]):
            return found
        found.append(one)
        stand, way = one[1], {"dip": "peak", "peak": "dip"}[way]


class EndsTest(Refusals, unittest.TestCase):
    def test_plain_ones(self):
        self.assertEqual((1, 2), ends(HOUSE, ()))
        self.assertEqual((2, 3), ends(HOUSE, (0,)))
        self.assertEqual((2, 4), ends(HOUSE, (0, 1)))
        self.assertRaises(NoSpan, ends, HOUSE, (1,))
        self.assertEqual((-BIG, BIG - 1), ends(House(((BIG, -BIG),)), ()))
        self.assertEqual((-BIG + 1, BIG), ends(House(((BIG, -BIG),)), (0,)))

    def test_span_with_floor_and_roof(self):
        for house, stand in settled_stands(some_houses(40)):
            low, high = ends(house, stand)
            self.assertEqual(slow_ends(house, stand), (low, high))
            self.assertTrue(is_settled(house, stand, low) and is_settled(house, stand, high))
            self.assertTrue(stand == () or not is_settled(house, stand, low - 1))

    def test_refused(self):
        for thing in (*STRANGE, (2,), (-1,), (1, 0), [0]):
            if not (isinstance(thing, tuple) and thing == ()):
                for asked in ASKED:
                    self.refused(NoStand, {"stand": thing}, lambda: asked(HOUSE, thing))
                self.refused(NoStand, {"stand": thing}, lambda: widening(HOUSE, thing, way="peak"))
        refused = 0
        for house in some_houses(30):
            for stand in all_stands(house):
                if span(house, stand) is None:
                    refused += 1
                    for asked in ASKED:
                        self.refused(NoSpan, {"stand": stand}, lambda: asked(house, stand))
                    self.refused(NoSpan, {"stand": stand}, lambda: widening(house, stand, way="peak"))
        self.assertGreater(refused, 30)
        self.assertRaises(TypeError, widening, HOUSE, (), "peak")


class DipTest(unittest.TestCase):
    def test_by_each_whole_swell(self):
        dips = peaks = 0
        for house, stand in settled_stands(some_houses(45)):
            dip, peak = deepest_dip(house, stand), highest_peak(house, stand)
            self.assertEqual(slow_dip(house, stand), dip)
            self.assertEqual(slow_peak(house, stand), peak)
            dips += dip is not None
            peaks += peak is not None
        self.assertTrue(dips > 60 and peaks > 60)

    def test_what_is_borne_and_where_it_ends(self):
        for house, stand in settled_stands(some_houses(30)):
            low, high = ends(house, stand)
            dip, peak = deepest_dip(house, stand), highest_peak(house, stand)
            if dip is not None:
                self.assertEqual((tuple, dip[0]), (dip.__class__, ends(house, dip[1])[0]))
                self.assertTrue(all(bears(house, stand, high, swell) for swell in range(dip[0], low)))
                self.assertTrue(dip[0] == floor(house) or not bears(house, stand, high, dip[0] - 1))
            if peak is not None:
                self.assertEqual((tuple, peak[0]), (peak.__class__, ends(house, peak[1])[1]))
                self.assertTrue(all(bears(house, stand, low, swell) for swell in range(high, peak[0] + 1)))
                self.assertTrue(peak[0] == roof(house) or not bears(house, stand, low, peak[0] + 1))

    def test_none_and_all(self):
        for house in some_houses(40):
            none, every = (), all_of(house)
            self.assertIsNone(deepest_dip(house, none))
            self.assertIsNone(highest_peak(house, every))
            self.assertEqual((floor(house), none), deepest_dip(house, every))
            self.assertEqual((roof(house), every), highest_peak(house, none))
            self.assertEqual([], widening(house, none))
            self.assertEqual([], widening(house, every, way="peak"))

    def test_far_apart(self):
        house = House(((BIG, -BIG), (BIG // 2, -BIG // 2), (7, 3)), ((0, 1, 3), (2, 0, 9), (1, 2, 4)))
        self.assertEqual((floor(house), ()), deepest_dip(house, (0, 1, 2)))
        self.assertEqual((roof(house), (0, 1, 2)), highest_peak(house, ()))
        low, high = ends(house, (1,))
        dip, peak = deepest_dip(house, (1,)), highest_peak(house, (1,))
        self.assertEqual((low, high), (-BIG // 2 + 1, 2))
        self.assertIsNone(dip)
        self.assertEqual((BIG - 10, (1, 2)), peak)

    def test_great_houses(self):
        helps = tuple((a, b, 1 + (a * b) % 9) for a in range(14) for b in range(14) if a != b)
        house = House(tuple((100 * k, 100 * k - 50) for k in range(14)), helps)
        for stand in [tuple(range(k)) for k in range(15)]:
            if span(house, stand) is not None:
                self.assertEqual(slow_dip(house, stand), deepest_dip(house, stand))


class WideningTest(unittest.TestCase):
    def test_by_each_whole_swell(self):
        longest = 0
        for house, stand in settled_stands(some_houses(40)):
            for way in ("dip", "peak"):
                told = widening(house, stand, way=way)
                self.assertEqual(slow_widening(house, stand, way), told)
                longest = max(longest, len(told))
            self.assertEqual(widening(house, stand, way="dip"), widening(house, stand))
        self.assertGreater(longest, 2)

    def test_form(self):
        for house, stand in settled_stands(some_houses(30, 4)):
            for way, first in (("dip", 0), ("peak", 1)):
                told = widening(house, stand, way=way)
                self.assertNotEqual(1, len(told))
                dips, peaks = told[first::2], told[1 - first::2]
                for one, two in zip(dips, dips[1:]):
                    self.assertTrue(two[0] < one[0] and set(two[1]) < set(one[1]))
                for one, two in zip(peaks, peaks[1:]):
                    self.assertTrue(two[0] > one[0] and set(two[1]) > set(one[1]))

    def test_long_ones(self):
        # each swing lies within the next wider one
        self.assertEqual((-2, 3), ends(NEST, (1, 3, 5, 7)))
        self.assertEqual([], widening(NEST, (1, 3, 5, 7), way="peak"))
        self.assertEqual([(-4, (1, 3, 5)), (5, (1, 3, 5, 6, 7)), (-6, (1, 3)), (7, (1, 3, 4, 5, 6, 7)), (-8, (1,)),
                          (9, (1, 2, 3, 4, 5, 6, 7)), (-11, ()), (11, tuple(range(9)))],
                         widening(NEST, (1, 3, 5, 7)))
        for stand in all_stands(NEST)[::3]:
            if span(NEST, stand) is not None:
                for way in ("dip", "peak"):
                    self.assertEqual(slow_widening(NEST, stand, way), widening(NEST, stand, way=way))
        lengths = []
        for seed in range(300):
            numbers = Numbers(seed + 5)
            downs = [numbers.between(-20, 10) for _ in range(6)]
            house = House(tuple((down + numbers.between(1, 25), down) for down in downs),
                          some_house(seed, 6, seed % 6).helps())
            for stand in all_stands(house)[::9]:
                if span(house, stand) is not None:
                    lengths.append(len(widening(house, stand)))
                    self.assertEqual(slow_widening(house, stand, "dip"), widening(house, stand))
        self.assertGreater(max(lengths), 3)

    def test_new_lists(self):
        widening(HOUSE, (0,)).append(None)
        self.assertEqual([(1, ()), (4, (0, 1))], widening(HOUSE, (0,)))


if __name__ == "__main__":
    unittest.main()
