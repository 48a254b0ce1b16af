"""Promises [36] and [37]: the bare history."""

import unittest

from swaykeep.errors import NoHistory, NoStand, Unsettled
from swaykeep.falls import falls
from swaykeep.houses import House
from swaykeep.least import bare
from swaykeep.legs import led
from swaykeep.residues import residue
from tests.samples import (BIG, STRANGE, Numbers, Refusals, slow_falls, slow_leg, slow_settled, some_history,
                           some_house, some_houses)

HOUSE = House(((3, 1), (5, 2)), ((0, 1, 1),))


def slow_led(house, stand, history):
    stands = [stand]
    for start, end in zip(history, history[1:]):
        stands.append(slow_leg(house, stands[-1], start, end))
    return stands


def slow_bare(house, stand, history):
    """Round by round, each leg gone through swell by swell."""
    while True:
        left = residue(history)
        stands = slow_led(house, stand, left)
        drawn = left[:1]
        for place, (start, end) in enumerate(zip(left, left[1:])):
            found = slow_falls(house, stands[place], start, end)[0]
            if found:
                drawn.append(found[-1][0])
        stands = slow_led(house, stand, drawn)
        again = [one for one in stands if stands.count(one) > 1]
        if again:
            first = stands.index(again[0])
            last = len(stands) - 1 - stands[::-1].index(again[0])
            drawn = drawn[:first + 1] + drawn[last + 1:]
        if drawn == history:
            return drawn
        history = drawn


class BareTest(Refusals, unittest.TestCase):
    def test_plain_ones(self):
        self.assertEqual([0], bare(HOUSE, (), [0]))
        self.assertEqual([0], bare(HOUSE, (), [0, 0]))
        self.assertEqual([0], bare(HOUSE, (), (0, 2, -9, 1)))
        self.assertEqual([0, 3], bare(HOUSE, (), [0, 3]))
        self.assertEqual([0, 4], bare(HOUSE, (), [0, 100]))
        self.assertEqual([0, 5, 3], bare(House(((3, 1), (5, 3))), (), [0, 9, 2]))
        self.assertEqual([2], bare(HOUSE, (0,), [2, 9, 0, 3]))
        self.assertEqual([-BIG, 4], bare(HOUSE, (), [-BIG, BIG]))

    def test_a_leg_without_falls_is_left_out(self):
        self.assertEqual([0, 3], bare(HOUSE, (), [0, 3, 2]))
        self.assertEqual([0, 4], bare(HOUSE, (), [0, 3, 2, 4, 3]))

    def test_a_stand_that_stands_three_times(self):
        # (0,) stands at the places 1, 3 and 5, each time by a swing that closes wide and wider
        house = House(((3, 1), (9, -9), (20, 5)))
        history = [0, 3, 1, 9, -9, 4]
        self.assertEqual([(), (0,), (), (0, 1), (), (0,)], led(house, (), history))
        self.assertEqual([0, 3], bare(house, (), history))
        house = House(((3, 1), (5, 2), (7, -4)))
        history = [4, 1, 5, 0, 6, -1, 3]
        stands = led(house, (0,), history)
        self.assertEqual(3, stands.count(()))
        self.assertEqual([4], bare(house, (0,), history))
        self.assertEqual([4, 1], bare(house, (0,), history[:-1]))

    def test_by_the_words(self):
        unlike = 0
        for seed, house in enumerate(some_houses(60)):
            history = some_history(seed, 3 + seed % 12)
            for stand in slow_settled(house, history[0]):
                told = bare(house, stand, history)
                self.assertEqual(slow_bare(house, stand, history), told)
                unlike += told != residue(history)
        self.assertGreater(unlike, 20)

    def test_what_it_keeps(self):
        for seed, house in enumerate(some_houses(80, 4)):
            numbers = Numbers(seed)
            width = numbers.between(4, 22)
            history = some_history(seed, 20, -width, width)
            for stand in slow_settled(house, history[0]):
                told = bare(house, stand, history)
                stands = led(house, stand, told)
                self.assertEqual(history[0], told[0])
                self.assertEqual(led(house, stand, history)[-1], stands[-1])
                self.assertEqual(told, residue(told))
                self.assertEqual(told, bare(house, stand, told))
                self.assertEqual(len(stands), len(set(stands)))
                self.assertLessEqual(len(told), len(residue(history)))
                for place, end in enumerate(told[1:]):
                    self.assertEqual(end, falls(house, stands[place], told[place], end)[-1][0])

    def test_more_rounds_than_one(self):
        rounds = []
        for seed in range(150):
            house = some_house(seed, 4)
            history = residue(some_history(seed, 30, -30, 20))
            for stand in slow_settled(house, history[0])[:1]:
                told = bare(house, stand, history)
                self.assertEqual(slow_bare(house, stand, history), told)
                rounds.append(len(history) - len(told))
        self.assertGreater(len([many for many in rounds if many > 3]), 5)

    def test_nothing_is_changed(self):
        history = [0, 9, 2, 100]
        bare(HOUSE, (), history).append(7)
        self.assertEqual([0, 9, 2, 100], history)
        one = [0, 4]
        self.assertIsNot(one, bare(HOUSE, (), one))

    def test_refused_as_led(self):
        for thing in (*STRANGE, (2,), (-1,), (1, 0), [0]):
            if not (isinstance(thing, tuple) and thing == ()):
                self.refused(NoStand, {"stand": thing}, lambda: bare(HOUSE, thing, []))
        self.refused(NoHistory, {"place": 0}, lambda: bare(HOUSE, (0,), []))
        self.refused(NoHistory, {"place": 1}, lambda: bare(HOUSE, (0,), [0, True]))
        self.refused(NoHistory, {"place": 0}, lambda: bare(HOUSE, (0,), [None, 1.0]))
        self.refused(Unsettled, {"latch": 0, "swell": 0}, lambda: bare(HOUSE, (0,), [0, 3]))
        self.refused(Unsettled, {"latch": 1, "swell": 7}, lambda: bare(HOUSE, (0,), [7]))

    def test_long_histories_of_great_houses(self):
        helps = tuple((a, b, 1 + (a * b) % 9) for a in range(14) for b in range(14) if a != b)
        house = House(tuple((100 * k, 100 * k - 50) for k in range(14)), helps)
        for history in ([(-1) ** place * (10 + 5 * place) for place in range(300)],
                        [(-1) ** place * (5 * (300 - place)) for place in range(300)],
                        [-BIG] + [(-1) ** place * BIG // (place + 1) for place in range(299)]):
            stand = led(house, (), [-10 ** 40, history[0]])[-1]
            told = bare(house, stand, history)
            self.assertEqual(led(house, stand, history)[-1], led(house, stand, told)[-1])
            self.assertEqual(told, bare(house, stand, told))


if __name__ == "__main__":
    unittest.main()
