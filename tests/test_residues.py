"""Promises [29] to [35]: turns, residues, waists, papers of taking out, the latch that parts two histories."""

import unittest

from swaykeep.errors import NoHistory
from swaykeep.falls import floor, roof
from swaykeep.houses import House
from swaykeep.judge_residues import parting_shows, residue_shows
from swaykeep.legs import leg, led
from swaykeep.residues import are_alike, parting, residue, taking_out, turns, waist
from tests.samples import (BIG, STRANGE, Numbers, Refusals, all_of, slow_settled, some_history, some_houses)

AHEAD = (None, "below", "above")


def with_unseen(history, ahead):
    """The history with a swell ahead of all that no told one reaches, and how many were put there."""
    if not history or ahead is None:
        return list(history), 0
    return [min(history) - 7 if ahead == "below" else max(history) + 7, *history], 1


def slow_turns(history, numbers):
    """By the words: like neighbours are one, then swells between their neighbours go, in a drawn order."""
    left = [swell for place, swell in enumerate(history) if place == 0 or history[place - 1] != swell]
    while True:
        between = [k for k in range(1, len(left) - 1)
                   if min(left[k - 1], left[k + 1]) < left[k] < max(left[k - 1], left[k + 1])]
        if not between:
            return left
        del left[between[numbers.below(len(between))]]


def inner_places(left):
    found = []
    for k in range(1, len(left) - 2):
        low, high = sorted((left[k - 1], left[k + 2]))
        if low <= left[k] <= high and low <= left[k + 1] <= high:
            found.append(k)
    return found


def slow_residue(history, numbers, ahead=None):
    """Drawn inner swings are taken out until there is none; the residue and the places."""
    left, many = with_unseen(history, ahead)
    left = slow_turns(left, numbers)
    places = []
    while inner_places(left):
        found = inner_places(left)
        place = found[numbers.below(len(found))]
        places.append(place - many)
        del left[place:place + 2]
    return left[many:], places


def drawn_histories():
    """Histories of none, one, two and more swells, many of them with like ones among them."""
    for seed in range(240):
        numbers = Numbers(seed + 77)
        width = numbers.between(1, 9)
        yield [numbers.between(-width, width) for _ in range(numbers.below(14))]


class TurnsTest(Refusals, unittest.TestCase):
    def test_plain_ones(self):
        for history, told in (([], []), ([4], [4]), ([4, 4], [4]), ([4, 5], [4, 5]), ([4, 4, 5, 5], [4, 5]),
                              ([1, 2, 3], [1, 3]), ([3, 2, 2, 1, 4], [3, 1, 4]), ([1, 3, 1, 3], [1, 3, 1, 3]),
                              ([5, 5, 5, 5], [5]), ([1, 2, 2, 3, 3, 2], [1, 3, 2]), ([-1, 0, -1], [-1, 0, -1])):
            self.assertEqual(told, turns(history))
        self.assertEqual([5], turns([1, 3, 5], ahead="below"))
        self.assertEqual([1, 5], turns([1, 3, 5], ahead="above"))
        self.assertEqual([5, 3], turns([5, 4, 3], ahead="below"))
        self.assertEqual([3], turns([5, 4, 3], ahead="above"))
        for ahead in AHEAD:
            self.assertEqual([], turns([], ahead=ahead))
            self.assertEqual([], residue([], ahead=ahead))
            self.assertEqual([], taking_out([], ahead=ahead))
            self.assertEqual([7], turns([7, 7], ahead=ahead))

    def test_by_the_words(self):
        numbers = Numbers(1)
        for history in drawn_histories():
            for ahead in AHEAD:
                swells, many = with_unseen(history, ahead)
                self.assertEqual(slow_turns(swells, numbers)[many:], turns(history, ahead=ahead))

    def test_rise_and_fall_by_turns_with_first_and_last_swell(self):
        for history in drawn_histories():
            told = turns(history)
            self.assertEqual(history[:1] + history[-1:], told[:1] + (told[-1:] if history else []))
            for one, two, three in zip(told, told[1:], told[2:]):
                self.assertTrue(one < two > three or one > two < three)

    def test_new_lists_and_nothing_changed(self):
        history = [0, 5, 2, 3, 9]
        for deed in (turns, residue, taking_out):
            deed(history).append(8)
            self.assertEqual([0, 5, 2, 3, 9], history)
        self.assertIsNot(history, turns(history))
        self.assertEqual([0, 9], residue((0, 5, 2, 3, 9)))

    def test_refused(self):
        for deed in (turns, residue, taking_out, waist):
            for thing in STRANGE:
                if thing.__class__ is not list:
                    self.refused(NoHistory, {"place": 2}, lambda: deed([1, 2, thing, None]))
                    self.refused(NoHistory, {"place": 0}, lambda: deed([thing]))
        for ahead in AHEAD:
            self.refused(NoHistory, {"place": 1}, lambda: turns([1, True], ahead=ahead))
            self.refused(NoHistory, {"place": 0}, lambda: residue([None], ahead=ahead))
            self.refused(NoHistory, {"place": 3}, lambda: taking_out([1, 5, 2, "3"], ahead=ahead))
            self.refused(NoHistory, {"place": 1}, lambda: are_alike([1, False], [None], ahead=ahead))
            self.refused(NoHistory, {"place": 0}, lambda: are_alike([1], [None, 1], ahead=ahead))
            self.refused(NoHistory, {"place": 1}, lambda: residue_shows([1, 1.0], [], [1], ahead=ahead))
        self.refused(NoHistory, {"place": 0}, lambda: parting([None], [1, None]))
        self.refused(NoHistory, {"place": 1}, lambda: parting([], [1, None]))
        self.refused(NoHistory, {"place": 0}, lambda: parting_shows([None], [1, None], (1, 0)))
        self.refused(NoHistory, {"place": 1}, lambda: parting_shows([], [1, None], (1, 0)))
        self.assertRaises(TypeError, turns, [1], "below")
        self.assertRaises(TypeError, residue, [1], "below")
        self.assertRaises(TypeError, taking_out, [1], "below")
        self.assertRaises(TypeError, are_alike, [1], [1], "below")
        self.assertRaises(TypeError, residue_shows, [1], [], [1], "below")


class ResidueTest(unittest.TestCase):
    def test_plain_ones(self):
        for history, told in (
                ([0], [0]), ([0, 5], [0, 5]), ([0, 5, 5, 0], [0, 5, 0]), ([0, 5, 2], [0, 5, 2]),
                # swings that widen, that narrow, that are alike
                ([0, 1, -1, 2, -2, 3], [0, 1, -1, 2, -2, 3]), ([0, 9, 1, 8, 2, 7], [0, 9, 1, 8, 2, 7]),
                ([0, 3, 0, 3], [0, 3]), ([0, 3, 0, 3, 0], [0, 3, 0]), ([0, 3, 1, 3], [0, 3]), ([0, 3, 0, 4], [0, 4]),
                ([0, 9, 4, 6, 5, 7, 1], [0, 9, 1]), ([4, 4, 4], [4]), ([0, 3, 1, 2], [0, 3, 1, 2])):
            self.assertEqual(told, residue(history), history)
        self.assertEqual([5], residue([0, 5], ahead="below"))
        self.assertEqual([0], residue([5, 0], ahead="above"))
        self.assertEqual([5, 0], residue([1, 5, 0], ahead="below"))
        self.assertEqual([0, 5], residue([1, 0, 5], ahead="above"))
        # a swing at place 0 may be an inner one here
        self.assertEqual([5], residue([5, 1, 5], ahead="below"))
        self.assertEqual([0], taking_out([5, 1, 5], ahead="below"))
        self.assertEqual([1], residue([1, 5, 1], ahead="above"))
        self.assertEqual([0], taking_out([1, 5, 1], ahead="above"))
        self.assertEqual([], taking_out([5, 1, 5]))

    def test_the_same_in_whatever_order_inner_swings_are_taken_out(self):
        for history in drawn_histories():
            for ahead in AHEAD:
                told = residue(history, ahead=ahead)
                for seed in range(4):
                    left, places = slow_residue(history, Numbers(seed), ahead)
                    self.assertEqual(told, left)
                    self.assertIs(True, residue_shows(history, places, left, ahead=ahead))

    def test_the_told_paper_takes_out_the_first_one_each_time(self):
        for history in drawn_histories():
            for ahead in AHEAD:
                swells, many = with_unseen(history, ahead)
                left = slow_turns(swells, Numbers(0))
                places = []
                while inner_places(left):
                    place = inner_places(left)[0]
                    places.append(place - many)
                    del left[place:place + 2]
                self.assertEqual(places, taking_out(history, ahead=ahead))

    def test_first_told_one_from_below_or_above_all(self):
        for history in drawn_histories():
            if history:
                self.assertEqual(max(history), residue(history, ahead="below")[0])
                self.assertEqual(min(history), residue(history, ahead="above")[0])

    def test_widths(self):
        for history in drawn_histories():
            left = residue(history)
            widths = [abs(two - one) for one, two in zip(left, left[1:])]
            peak = widths.index(max(widths)) if widths else 0
            growing, falling = widths[:peak + 1], widths[peak:]
            if len(falling) > 1 and falling[0] == falling[1]:
                falling = falling[1:]
            self.assertTrue(all(one < two for one, two in zip(growing, growing[1:])))
            self.assertTrue(all(one > two for one, two in zip(falling, falling[1:])))
            for ahead in ("below", "above"):
                left = residue(history, ahead=ahead)
                for one, two, three in zip(left, left[1:], left[2:]):
                    self.assertTrue(min(one, two) < three < max(one, two))

    def test_waist(self):
        self.assertIsNone(waist([]))
        self.assertIsNone(waist([3]))
        self.assertIsNone(waist([3, 3, 3]))
        self.assertEqual((3, 1), waist([3, 1]))
        self.assertEqual((0, 5), waist([0, 5, 0]))
        self.assertEqual((-2, 3), waist([0, 1, -2, 3, -2, 1, 0]))
        self.assertEqual((9, 1), waist([5, 9, 1, 8]))
        self.assertEqual((-BIG, BIG), waist([0, -BIG, BIG, 3, 5]))
        for history in drawn_histories():
            left = residue(history)
            legs = list(zip(left, left[1:]))
            widest = [one for one in legs if abs(one[1] - one[0]) == max(abs(b - a) for a, b in legs)]
            self.assertEqual(widest[0] if widest else None, waist(history))

    def test_what_stands_hangs_on_the_residue_alone(self):
        for seed, house in enumerate(some_houses(30)):
            history = some_history(seed, 12)
            for stand in slow_settled(house, history[0]):
                self.assertEqual(led(house, stand, history)[-1], led(house, stand, residue(history))[-1])
            for at in (floor(house), floor(house) - 9):
                below = [at, *residue(history, ahead="below")]
                self.assertEqual(led(house, (), [at, *history])[-1], led(house, (), below)[-1])
            for at in (roof(house), roof(house) + 9):
                above = [at, *residue(history, ahead="above")]
                self.assertEqual(led(house, all_of(house), [at, *history])[-1], led(house, all_of(house), above)[-1])

    def test_of_two_histories_behind_one_another(self):
        several = list(drawn_histories())
        for one, two in zip(several, several[7:]):
            for ahead in AHEAD:
                parts = residue(one, ahead=ahead) + residue(two)
                if ahead is None or one:
                    self.assertEqual(residue(one + two, ahead=ahead), residue(parts, ahead=ahead))

    def test_alike(self):
        self.assertIs(True, are_alike([], []))
        self.assertIs(False, are_alike([], [1]))
        self.assertIs(True, are_alike([1, 5, 2, 4, 9], [1, 9]))
        self.assertIs(False, are_alike([1, 9], [2, 9]))
        self.assertIs(True, are_alike([1, 9], [2, 9], ahead="below"))
        self.assertIs(False, are_alike([1, 9], [2, 9], ahead="above"))
        for one, two in zip(drawn_histories(), list(drawn_histories())[3:]):
            for ahead in AHEAD:
                told = residue(one, ahead=ahead) == residue(two, ahead=ahead)
                self.assertIs(told, are_alike(one, two, ahead=ahead))

    def test_long_histories_of_great_swells(self):
        numbers = Numbers(5)
        drawn = [numbers.between(-BIG, BIG) for _ in range(300)]
        widening = [place * (-1) ** place * BIG // 400 for place in range(300)]
        alike = [BIG, -BIG] * 150
        for history in (drawn, widening, widening[::-1], alike):
            for ahead in AHEAD:
                told = residue(history, ahead=ahead)
                self.assertEqual(slow_residue(history, Numbers(3), ahead)[0], told)
                self.assertTrue(residue_shows(history, taking_out(history, ahead=ahead), told, ahead=ahead))
        self.assertEqual(widening, residue(widening))
        self.assertEqual([BIG, -BIG], residue(alike))


class PaperTest(unittest.TestCase):
    def test_any_list_of_places(self):
        history = [0, 5, 3, 9, 6, 8, 1]
        self.assertEqual([0, 9, 1], residue(history))
        self.assertEqual([1, 2], taking_out(history))
        self.assertIs(True, residue_shows(history, [1, 2], [0, 9, 1]))
        self.assertIs(True, residue_shows(history, [4, 1], [0, 9, 1]))
        for places in ([], [1], [2], [3], [4], [1, 1], [1, 2, 1], [1, 2, 0], [-6, 2], [1, -3], [9], [1, 2, 7], [0],
                       [6], [4, 4], [10 ** 30], [-10 ** 30], [2, 1], [5], [1, 4], [-3, 1], [1, 2, -1]):
            self.assertIs(False, residue_shows(history, places, [0, 9, 1]), places)
        for told in ([], [0], [0, 9], [0, 9, 1, 1], [9, 1], [0, 9, 2], history, [0, 9, 6, 8, 1]):
            self.assertIs(False, residue_shows(history, [1, 2], told))
        # taken out as told, but something is left that may be taken out
        self.assertIs(False, residue_shows(history, [1], [0, 9, 6, 8, 1]))
        self.assertIs(False, residue_shows(history, [], history))
        self.assertIs(True, residue_shows([], [], []))
        self.assertIs(False, residue_shows([], [0], []))
        self.assertIs(False, residue_shows([], [], [0]))
        self.assertIs(True, residue_shows([1, 2, 3], [], [1, 3]))

    def test_from_below_and_above_all(self):
        self.assertIs(True, residue_shows([5, 1, 5], [0], [5], ahead="below"))
        self.assertIs(False, residue_shows([5, 1, 5], [0], [5], ahead="above"))
        self.assertIs(False, residue_shows([5, 1, 5], [0], [5]))
        self.assertIs(False, residue_shows([5, 1, 5], [-1], [5], ahead="below"))
        self.assertIs(False, residue_shows([5, 1, 5], [1], [5], ahead="below"))
        self.assertIs(False, residue_shows([5, 1, 5], [], [5, 1, 5], ahead="below"))
        # above all 5 lies on the way to 1
        self.assertIs(True, residue_shows([5, 1, 5], [], [1, 5], ahead="above"))
        self.assertIs(True, residue_shows([1, 5, 1], [0], [1], ahead="above"))

    def test_things_that_are_no_lists_of_numbers(self):
        for thing in STRANGE:
            if not isinstance(thing, list) or thing == [[[]]]:
                self.assertIs(False, residue_shows([0, 3, 1, 4], thing, [0, 4]))
                self.assertIs(False, residue_shows([0, 3, 1, 4], [1], thing))
            self.assertIs(False, residue_shows([0, 3, 1, 4], [thing], [0, 4]))
            self.assertIs(False, residue_shows([0, 3, 1, 4], [1], [thing, 4]))
        self.assertIs(False, residue_shows([0, 3, 1, 4], [True], [0, 4]))
        self.assertIs(False, residue_shows([0, 3, 1, 4], [1], [False, 4]))
        self.assertIs(False, residue_shows([0, 3, 1, 4], [1], (0, 4)))
        self.assertIs(True, residue_shows([0, 3, 1, 4], [1], [0, 4]))


class PartingTest(unittest.TestCase):
    def test_plain_ones(self):
        self.assertIsNone(parting([], []))
        self.assertIsNone(parting([1, 5, 2], [3, 5, 2]))
        self.assertEqual((3, 2), parting([], [3]))
        self.assertEqual((3, 0), parting([3, 1], []))
        self.assertEqual((5, 0), parting([5, 1], [3, 2]))
        self.assertEqual((5, 2), parting([5], [5, 2]))
        self.assertEqual((5, 1), parting([5, 2], [5, 1]))
        self.assertEqual((4, 1), parting([5, 1, 3], [5, 1, 4]))
        self.assertEqual((3, 1), parting([5, 1, 3], [5, 1]))
        self.assertEqual((3, 2), parting([5, 1, 3, 2], [5, 1, 3]))
        self.assertEqual((BIG, -BIG - 1), parting([BIG, -BIG], [0]))

    def test_is_up_behind_the_one_alone(self):
        several = list(drawn_histories())
        for one, other in zip(several, several[1:] + several[:1]):
            told = parting(one, other)
            self.assertEqual(told, parting(other, one))
            if residue(one, ahead="below") == residue(other, ahead="below"):
                self.assertIsNone(told)
                continue
            house = House((told,))
            ends = []
            for history in (one, other):
                start = min([floor(house), *history])
                ends.append(led(house, (), [start, *history])[-1])
                self.assertEqual(ends[-1], led(house, (), [start - 4, *history])[-1])
            self.assertEqual({(), (0,)}, set(ends))
            self.assertIs(True, parting_shows(one, other, told))

    def test_of_any_latch(self):
        several = list(drawn_histories())
        for seed, (one, other) in enumerate(zip(several, several[1:])):
            numbers = Numbers(seed)
            for _ in range(3):
                down = numbers.between(-9, 9)
                latch = (down + numbers.between(1, 9), down)
                house = House((latch,))
                ends = [led(house, (), [down, *history])[-1] for history in (one, other)]
                self.assertIs(ends[0] != ends[1], parting_shows(one, other, latch))
        self.assertIs(False, parting_shows([3], [], (4, 1)))
        self.assertIs(True, parting_shows([4], [], (4, 1)))
        self.assertIs(True, parting_shows([4, 1], [4, 2], (4, 1)))
        self.assertIs(False, parting_shows([4, 3], [4, 2], (4, 1)))
        self.assertIs(False, parting_shows([4, 1], [4, 0], (4, 1)))

    def test_what_is_no_latch(self):
        for thing in (*STRANGE, (4, 4), (1, 4), (4,), (4, 1, 0), [4, 1], (4, True), (True, 0), ("4", 1)):
            self.assertIs(False, parting_shows([4, 1], [4], thing))
        self.assertIs(True, parting_shows([4, 1], [4], (4, 1)))


class OneMoreWayTest(unittest.TestCase):
    def test_of_one_latch_from_a_swell_below_all(self):
        # what is not told of "from below all": any swell that is less than every one does
        for history in drawn_histories():
            if history:
                lower = [min(history) - 3, *history]
                self.assertEqual(residue(lower)[1:], residue(history, ahead="below"))
                higher = [max(history) + 3, *history]
                self.assertEqual(residue(higher)[1:], residue(history, ahead="above"))
                self.assertEqual((), leg(House(((2, 1),)), (), min(history + [1]), min(history + [1])))


if __name__ == "__main__":
    unittest.main()
