"""Promises [20], [21] (the same stand by steps), [25] and [26]: legs, no passing, there and back."""

import unittest

from swaykeep.errors import NoHistory, NoStand, NoSwell, Unsettled
from swaykeep.houses import House
from swaykeep.legs import bears, helped_no_less, is_within, led, leg, passing, there_and_back
from swaykeep.pulls import is_settled
from tests.samples import (BIG, STRANGE, Numbers, Refusals, all_of, all_stands, orders, slow_falls, slow_leg,
                           slow_settled, some_history, some_house, some_houses)

HOUSE = House(((3, 1), (5, 2)), ((0, 1, 1),))
NO_STANDS = (*STRANGE, (2,), (-1,), (0, 0), (1, 0), [0, 1], 0)
STARTS = range(-14, 10, 4)


def settled_starts(houses):
    """Houses with a swell and a stand that is settled there."""
    return [(house, swell, stand) for house in houses for swell in STARTS for stand in slow_settled(house, swell)]


class LegTest(Refusals, unittest.TestCase):
    def test_up_down_and_nowhere(self):
        self.assertEqual((0,), leg(HOUSE, (), 0, 3))
        self.assertEqual((0, 1), leg(HOUSE, (), 0, 4))
        self.assertEqual((0,), leg(HOUSE, (0,), 3, 2))
        self.assertEqual((0, 1), leg(HOUSE, (0, 1), 4, 2))
        self.assertEqual((), leg(HOUSE, (0, 1), 4, 1))
        for stand in ((), (0,), (0, 1)):
            self.assertEqual(stand, leg(HOUSE, stand, 2, 2))

    def test_whatever_order_they_go_in(self):
        for house, swell, stand in settled_starts(some_houses(12)):
            for end in (swell - 11, swell - 2, swell, swell + 3, swell + 9):
                for order in orders(house, 3):
                    self.assertEqual(slow_leg(house, stand, swell, end, order), leg(house, stand, swell, end))

    def test_led_by_whole_swells_it_comes_to_the_same_and_is_settled(self):
        for house, swell, stand in settled_starts(some_houses(12)):
            for end in (swell - 17, swell - 3, swell, swell + 2, swell + 15):
                told = leg(house, stand, swell, end)
                self.assertEqual(slow_falls(house, stand, swell, end)[1], told)
                self.assertTrue(is_settled(house, told, end))

    def test_far_swells_at_once(self):
        house = some_house(2, 14, 60)
        self.assertEqual(all_of(house), leg(house, (), 1 - 10 * BIG, 10 * BIG - 1))
        self.assertEqual((), leg(house, all_of(house), 10 * BIG - 1, 1 - 10 * BIG))

    def test_refusals_in_their_order(self):
        for ask in (leg, there_and_back, bears):
            for thing in NO_STANDS:
                self.refused(NoStand, {"stand": thing}, lambda: ask(HOUSE, thing, None, None))
            for thing in STRANGE:
                self.refused(NoSwell, {"swell": thing}, lambda: ask(HOUSE, (), thing, "x"))
                self.refused(NoSwell, {"swell": thing}, lambda: ask(HOUSE, (), 99, thing))
            self.refused(Unsettled, {"latch": 0, "swell": 99}, lambda: ask(HOUSE, (), 99, 0))
            self.refused(Unsettled, {"latch": 1, "swell": 9}, lambda: ask(HOUSE, (0,), 9, 0))
            self.refused(Unsettled, {"latch": 0, "swell": -9}, lambda: ask(HOUSE, (0, 1), -9, 0))

    def test_the_least_latch_either_way_is_told(self):
        house = House(((9, 7), (3, 1), (9, 8)))
        self.refused(Unsettled, {"latch": 1, "swell": 5}, lambda: leg(house, (2,), 5, 5))
        self.refused(Unsettled, {"latch": 0, "swell": 5}, lambda: leg(house, (0,), 5, 5))


class LedTest(Refusals, unittest.TestCase):
    def test_stands_at_each_swell_the_first_one_too(self):
        self.assertEqual([()], led(HOUSE, (), [0]))
        self.assertEqual([(), (0,), (0,), (0, 1), (0, 1), ()], led(HOUSE, (), [0, 3, 2, 5, 2, 1]))

    def test_like_leg_by_leg(self):
        for seed, house in enumerate(some_houses(30)):
            history = some_history(seed, 40)
            for stand in slow_settled(house, history[0]):
                stands = [stand]
                for start, end in zip(history, history[1:]):
                    stands.append(slow_leg(house, stands[-1], start, end))
                self.assertEqual(stands, led(house, stand, history))

    def test_long_histories_of_great_houses(self):
        house = some_house(4, 14, 182)
        history = [-10 * BIG + 1, *some_history(4, 299, -130, 20)]
        self.assertEqual(300, len(led(house, (), history)))

    def test_the_history_is_not_changed_and_the_list_is_new(self):
        history = [0, 3, 2]
        told = led(HOUSE, (), history)
        self.assertEqual([0, 3, 2], history)
        self.assertIs(list, type(told))
        told.append("x")
        history.append(1)
        self.assertEqual([(), (0,), (0,)], led(HOUSE, (), [0, 3, 2]))

    def test_refusals_in_their_order(self):
        for thing in NO_STANDS:
            self.refused(NoStand, {"stand": thing}, lambda: led(HOUSE, thing, []))
        for thing in ([], (), None, 0, "0", {0: 0}, {0}):
            self.refused(NoHistory, {"place": 0}, lambda: led(HOUSE, (), thing))
        for thing in STRANGE:
            self.refused(NoHistory, {"place": 0}, lambda: led(HOUSE, (), [thing, thing]))
            self.refused(NoHistory, {"place": 2}, lambda: led(HOUSE, (), [99, 0, thing, 1, thing]))
        self.refused(Unsettled, {"latch": 1, "swell": 7}, lambda: led(HOUSE, (0,), [7, 0]))


class WithinTest(Refusals, unittest.TestCase):
    def test_each_latch_is_up_there_too(self):
        for one in all_stands(some_house(3, 4)):
            for other in all_stands(some_house(3, 4)):
                self.assertIs(set(one) <= set(other), is_within(one, other))
        self.assertIs(True, is_within((), (0,)))
        self.assertIs(False, is_within((0, 2), (0, 1, 3)))

    def test_no_stand(self):
        for thing in (*STRANGE, (-1,), (0, 0), (1, 0), [0, 1]):
            self.refused(NoStand, {"stand": thing}, lambda: is_within(thing, None))
            self.refused(NoStand, {"stand": thing}, lambda: is_within((0,), thing))

    def test_helped_no_less(self):
        house = House(((3, 1), (5, 2)), ((0, 1, 2),))
        for other, told in (
                (house, True), (House(((3, 1), (5, 2))), False), (House(((3, 1), (5, 2)), ((0, 1, 1),)), False),
                (House(((3, 1), (5, 2)), ((0, 1, 3), (1, 0, 9))), True), (House(((3, 1), (5, 2)), ((1, 0, 9),)), False),
                (House(((2, 1), (5, 2)), ((0, 1, 2),)), True), (House(((3, 0), (5, 2)), ((0, 1, 2),)), True),
                (House(((4, 1), (5, 2)), ((0, 1, 9),)), False), (House(((3, 2), (5, 2)), ((0, 1, 9),)), False),
                (House(((3, 1), (6, 2)), ((0, 1, 2),)), False), (House(((3, 1), (5, 3)), ((0, 1, 2),)), False),
                (House(((3, 1),)), False), (House(((3, 1), (5, 2), (0, -1)), ((0, 1, 2),)), False)):
            self.assertIs(told, helped_no_less(house, other))
        self.assertIs(False, helped_no_less(House(((3, 1),) * 2, ((0, 1, 1),)), House(((3, 1),) * 2)))


def helped_more(house, seed):
    """Some house that is helped no less."""
    numbers = Numbers(seed)
    latches = tuple((up - drop, down - drop - numbers.below(2))
                    for up, down in house.latches() for drop in (numbers.below(3),))
    lent = {(one, other): many for one, other, many in house.helps()}
    for one in all_of(house):
        for other in all_of(house):
            if one != other and numbers.below(2):
                lent[one, other] = min(9, lent.get((one, other), 0) + numbers.between(1, 3))
    return House(latches, tuple((*pair, many) for pair, many in lent.items()))


class PassingTest(Refusals, unittest.TestCase):
    def test_no_passing(self):
        for seed, house in enumerate(some_houses(40)):
            other = helped_more(house, seed)
            self.assertTrue(helped_no_less(house, other))
            numbers = Numbers(seed)
            history = some_history(seed, 20)
            other_history = [swell + numbers.below(4) for swell in history]
            for one in slow_settled(house, history[0]):
                for two in slow_settled(other, other_history[0]):
                    told = passing(house, one, history, other, two, other_history)
                    self.assertEqual(None if set(one) <= set(two) else 0, told)

    def test_first_place_at_which_it_is_not_within(self):
        house = House(((3, 1),))
        self.assertEqual(2, passing(house, (), [0, 1, 3, 3], house, (), [0, 1, 2, 2]))
        self.assertEqual(0, passing(house, (0,), [2, 2], house, (), [2, 2]))
        self.assertIsNone(passing(house, (), [0, 1, 2], house, (), [0, 9, 2]))
        self.assertEqual(1, passing(House(((3, 1),) * 2), (), [0, 3], house, (), [0, 3]))

    def test_whatever_houses_stands_and_histories_they_are(self):
        for seed in range(40):
            one, two = some_house(seed), some_house(seed + 500)
            history, other_history = some_history(seed, 12), some_history(seed + 7, 12)
            for stand in slow_settled(one, history[0])[:2]:
                for other_stand in slow_settled(two, other_history[0])[:2]:
                    pairs = list(zip(led(one, stand, history), led(two, other_stand, other_history)))
                    places = [place for place, (a, b) in enumerate(pairs) if not set(a) <= set(b)]
                    told = passing(one, stand, history, two, other_stand, other_history)
                    self.assertEqual(places[0] if places else None, told)

    def test_refusals_in_their_order(self):
        house = House(((3, 1),))
        for thing in (*STRANGE, (1,), (-1,)):
            self.refused(NoStand, {"stand": thing}, lambda: passing(house, thing, [], house, None, []))
            self.refused(NoStand, {"stand": thing}, lambda: passing(house, (), [0], house, thing, []))
        for thing in STRANGE:
            self.refused(NoHistory, {"place": 1}, lambda: passing(house, (), [0, thing], house, (), [thing]))
            self.refused(NoHistory, {"place": 2}, lambda: passing(house, (), [0], house, (), [9, 0, thing]))
        self.refused(NoHistory, {"place": 0}, lambda: passing(house, (), [], house, (), [0]))
        self.refused(NoHistory, {"place": 0}, lambda: passing(house, (), [0], house, (), []))
        self.refused(Unsettled, {"latch": 0, "swell": 5}, lambda: passing(house, (), [5], house, (0,), [0, 1]))
        self.refused(Unsettled, {"latch": 0, "swell": 0}, lambda: passing(house, (), [0], house, (0,), [0, 1]))
        self.refused(NoHistory, {"place": 1}, lambda: passing(house, (), [0], house, (), [0, 1]))
        self.refused(NoHistory, {"place": 2}, lambda: passing(house, (), [0, 9, 5, 5], house, (), [0, 1]))


class BackTest(unittest.TestCase):
    def test_two_stands(self):
        self.assertEqual(((0, 1), (0, 1)), there_and_back(HOUSE, (), 2, 5))
        self.assertEqual(((0,), (0,)), there_and_back(HOUSE, (0,), 2, 3))
        self.assertEqual(((0,), ()), there_and_back(HOUSE, (), 1, 3))
        self.assertEqual(((), ()), there_and_back(HOUSE, (), 2, 2))
        self.assertIs(tuple, type(there_and_back(HOUSE, (), 2, 5)))

    def test_bears(self):
        self.assertEqual([True, True, False, False], [bears(HOUSE, (), 2, far) for far in (-BIG, 2, 3, BIG)])
        self.assertIs(True, bears(HOUSE, (), 1, 3))

    def test_bears_what_it_comes_back_from_and_each_swell_between(self):
        for house, swell, stand in settled_starts(some_houses(10)):
            for way in (1, -1):
                borne = []
                for far in range(swell, swell + 25 * way, way):
                    there = slow_leg(house, stand, swell, far)
                    borne.append(slow_leg(house, there, far, swell) == stand)
                    self.assertIs(borne[-1], bears(house, stand, swell, far))
                    self.assertTrue(bears(house, there, far, swell))
                    self.assertEqual((there, slow_leg(house, there, far, swell)),
                                     there_and_back(house, stand, swell, far))
                self.assertEqual(sorted(borne, reverse=True), borne)


if __name__ == "__main__":
    unittest.main()
