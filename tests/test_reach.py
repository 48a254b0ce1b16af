"""Promises [64], [65]: all stands that can be come to, and all islands."""

import unittest

from swaykeep.comings import coming, fewest, island_of
from swaykeep.errors import TooMany
from swaykeep.houses import House
from swaykeep.pulls import span
from swaykeep.reach import islands, reached
from swaykeep.settling import settled_at
from swaykeep.turning import moved, others, renamed, turned
from tests.samples import (BIG, Numbers, Refusals, all_of, all_stands, slow_graph, slow_islands, slow_turns,
                           some_house, some_houses)

HOUSE = House(((3, 1), (5, 2)), ((0, 1, 1),))
# four latches, each of which goes up and down without the others
LADDER = House(((3, 2), (5, 4), (7, 6), (9, 8)))
# all of these hold one another, once they are up
TIGHT = House(((9, 0), (9, 0), (9, 0)), ((0, 1, 9), (1, 2, 9), (2, 0, 9)))
# swings that lie within one another
NEST = House(((8, -7), (6, -7), (6, -5), (4, -5), (4, -3), (2, -3), (9, -9)))


def houses():
    numbers = Numbers(3)
    nested = [House(tuple((numbers.between(1, 9), numbers.between(-9, 0)) for _ in range(5))) for _ in range(6)]
    return [*some_houses(60), *nested, some_house(9, 5), some_house(12, 6, 8), HOUSE, LADDER, TIGHT, NEST]


class ReachedTest(Refusals, unittest.TestCase):
    def test_plain_ones(self):
        self.assertEqual([(0, ()), (1, (0,)), (1, (0, 1))], reached(HOUSE))
        self.assertEqual([(0, ()), (1, (0, 1, 2))], reached(TIGHT))
        self.assertEqual([(0, ())] + [(1, all_of(LADDER)[:many]) for many in range(1, 5)], reached(LADDER))

    def test_beside_all_stands_and_falls(self):
        longest = 0
        for house in houses():
            turns = slow_turns(slow_graph(house), ())
            self.assertEqual(sorted((many, stand) for stand, many in turns.items()), reached(house))
            longest = max(longest, *turns.values())
            for many, stand in reached(house):
                self.assertEqual(many, len(fewest(house, stand)) - 1)
            found = [stand for _, stand in reached(house)]
            for stand in all_stands(house):
                if span(house, stand) is not None:
                    self.assertEqual(stand in found, coming(house, stand)[0] == "come")
        self.assertGreater(longest, 5)

    def test_as_many_as_most_and_one_more(self):
        for house in houses()[::3]:
            told = reached(house)
            self.assertEqual(told, reached(house, most=len(told)))
            self.assertEqual(told, reached(house, most=BIG))
            for most in (len(told) - 1, 1, 0, -1):
                self.refused(TooMany, {"limit": most}, lambda: reached(house, most=most))
        self.assertRaises(TypeError, reached, HOUSE, 5)

    def test_four_hundred_where_it_is_left_out(self):
        wide = House(tuple((3 + k // 2, -3 - (k + 1) // 2) for k in range(14)))
        told = reached(wide, most=20000)
        self.assertGreater(len(told), 100)
        much = House(tuple((20 + k, -20 - (k * 5) % 14) for k in range(14)))
        self.assertGreater(len(reached(much, most=20000)), 400)
        self.refused(TooMany, {"limit": 400}, lambda: reached(much))

    def test_great_and_far(self):
        helps = tuple((a, b, 1 + (a * b) % 9) for a in range(14) for b in range(14) if a != b)
        house = House(tuple((100 * k, 100 * k - 50) for k in range(14)), helps)
        self.assertEqual([(0, ())] + [(1, tuple(range(many))) for many in range(1, 15)], reached(house))
        far = House(((BIG, -BIG), (BIG // 2, -BIG // 2), (7, 3)), ((0, 1, 3), (2, 0, 9), (1, 2, 4)))
        self.assertEqual([(0, ()), (1, (0, 1, 2)), (1, (1, 2)), (1, (2,)), (2, (0,)), (2, (0, 1)), (2, (1,)),
                          (3, (0, 2))], reached(far))
        self.assertEqual([many for many, _ in reached(far)],
                         [len(fewest(far, stand)) - 1 for _, stand in reached(far)])

    def test_told_anew(self):
        reached(HOUSE).append(None)
        islands(HOUSE).append(None)
        self.assertEqual(3, len(reached(HOUSE)))
        self.assertEqual(1, len(islands(HOUSE)))


class IslandsTest(Refusals, unittest.TestCase):
    def test_plain_ones(self):
        self.assertEqual([((), (0, 1), None, None, 3)], islands(HOUSE))
        self.assertEqual([((), (0, 1, 2), None, None, 2)], islands(TIGHT))
        self.assertEqual([((), (0, 1, 2, 3), None, None, 5)], islands(LADDER))

    def test_touching_ones(self):
        house = House(((4, -1), (9, 2)), ((0, 1, 7), (1, 0, 9)))
        self.assertEqual([((), (0, 1), None, None, 2), ((0,), (0,), 0, 1, 1)], islands(house))
        touching = 0
        for house in houses():
            told = [row for row in islands(house) if row[2] is not None]
            touching += any(one[3] + 1 == two[2] or one[3] == two[2] for one in told for two in told if one != two)
        self.assertGreater(touching, 5)

    def test_beside_all_stands_and_falls(self):
        many_islands = 0
        for house in houses():
            found = slow_islands(slow_graph(house))
            rows = {(*island_of(house, stand), len(stands)) for stand, stands in found.items()}
            told = islands(house)
            self.assertEqual(list, told.__class__)
            self.assertEqual(rows, set(told))
            self.assertEqual(len(rows), len(told))
            spanned = [stand for stand in all_stands(house) if span(house, stand) is not None]
            self.assertEqual(len(spanned), sum(row[-1] for row in told))
            self.assertEqual(sorted(told, key=lambda row: row[0]), told)
            self.assertEqual(((), all_of(house), None, None, len(reached(house))), told[0])
            many_islands += len(told) > 2
        self.assertGreater(many_islands, 12)

    def test_no_two_with_one_bottom(self):
        # so that the order never hangs on None
        for house in houses():
            bottoms = [row[0] for row in islands(house)]
            self.assertEqual(len(set(bottoms)), len(bottoms))

    def test_turned_moved_renamed(self):
        for house in houses()[::2]:
            told = islands(house)
            up_more = [(one, two, *[None if end is None else end + BIG for end in ends], many)
                       for one, two, *ends, many in told]
            self.assertEqual(up_more, islands(moved(house, BIG)))
            other = [(others(house, two), others(house, one), *[None if end is None else -end for end in (high, low)],
                      many) for one, two, low, high, many in told]
            self.assertEqual(sorted(other, key=lambda row: row[0]), islands(turned(house)))
            order = all_of(house)[::-1]
            new = [tuple([tuple(sorted(order.index(latch) for latch in stand)) for stand in row[:2]]) + row[2:]
                   for row in told]
            self.assertEqual(sorted(new, key=lambda row: row[0]), islands(renamed(house, order)))

    def test_eight_latches_and_nine(self):
        for seed in range(4):
            house = some_house(seed, 8, 10 * seed)
            told = islands(house)
            swells = [swell for row in told for swell in row[2:4] if swell is not None]
            every = {stand for swell in range(min(swells, default=0) - 60, max(swells, default=0) + 60)
                     for stand in settled_at(house, swell)}
            self.assertEqual(len(every), sum(row[-1] for row in told))
            self.refused(TooMany, {"limit": 8}, lambda: islands(some_house(seed, 9, 10 * seed)))


if __name__ == "__main__":
    unittest.main()
