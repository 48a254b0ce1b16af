"""Promises [78], [80] to [82]: houses that are like plain ones, and the judge of the papers of it."""

import unittest

from swaykeep.apart import counts, next_pair, told_apart
from swaykeep.errors import NotAlike, TooMany
from swaykeep.falls import floor, roof
from swaykeep.houses import House
from swaykeep.judge_like import like_holds
from swaykeep.legs import led
from swaykeep.likeness import below_paper, like, manies_by
from swaykeep.plain import heap_of, plain_house
from swaykeep.rises import first_rise, rises
from swaykeep.turning import moved, renamed
from tests.samples import (BIG, NO_WORDS, STRANGE, Angry, Numbers, Refusals, Yes, all_of, some_history, some_house,
                           some_houses)

HOUSE = House(((3, 1), (5, 2)), ((0, 1, 1),))
# between -1 and 3 () rises by one, (0, 1) by none; and F(0, 5) - F(1, 5) - F(0, 4) + F(1, 4) is -1
UNLIKE = House(((3, 0), (14, 3)), ((0, 1, 9), (1, 0, 2)))

SOME = House(((-2, -4), (3, -4), (9, 2), (0, -4), (1, -1), (5, 3)), ((1, 3, 9), (3, 1, 1), (4, 5, 2), (5, 2, 1)))
OTHER = House(((3, -3), (4, 2), (-1, -4), (-2, -3)),
              ((0, 1, 1), (0, 3, 9), (1, 0, 1), (1, 3, 1), (3, 0, 2), (3, 2, 9)))


def houses():
    return [*[some_house(seed, 2 + seed % 3, seed % 4) for seed in range(80)], *some_houses(30), HOUSE, UNLIKE]


def rise_between(house, low, high):
    low, high = max(low, floor(house)), min(high, roof(house))
    return first_rise(house, low, high) if low < high else 0


def four_of(house, up, down):
    return tuple(rise_between(house, low, high)
                 for low, high in ((down, up), (down + 1, up), (down, up - 1), (down + 1, up - 1)))


def heap_by_rises(house):
    """All pairs from the floor to the roof of which the second difference of rises is not 0."""
    low, high = floor(house), roof(house)
    found = []
    for up in range(low, high + 1):
        for down in range(low, up):
            one, two, three, four = four_of(house, up, down)
            if one - two - three + four != 0:
                found.append((up, down, one - two - three + four))
    return found


class LikeTest(Refusals, unittest.TestCase):
    def test_plain_ones(self):
        self.assertEqual(("plain", [(3, 1, 1), (4, 1, 1)], [((), ()), ((0,), (0,)), ((0, 1), (0, 1))]), like(HOUSE))
        self.assertEqual(("unlike", -1, 3), like(UNLIKE)[:3])

    def test_kinds(self):
        plain = unlike = 0
        for house in houses():
            told = like(house)
            self.assertIs(tuple, told.__class__)
            self.assertIs(True, like_holds(house, told))
            try:
                rises(house)
            except NotAlike as refusal:
                unlike += 1
                self.assertEqual(("unlike", refusal.low, refusal.high), told[:3])
                continue
            plain += 1
            heap = heap_by_rises(house)
            self.assertEqual(len(house), sum(many for _, _, many in heap))
            # where rises are alike no pair has fewer than none: told of every house that was tried
            self.assertTrue(all(many > 0 for _, _, many in heap))
            self.assertEqual(("plain", heap), told[:2])
        self.assertTrue(plain > 60 and unlike > 6, (plain, unlike))

    def test_unlike(self):
        for house in houses():
            told = like(house)
            if told[0] != "unlike":
                continue
            _, low, high, *histories = told
            self.assertEqual(5, len(told))
            rises_there = []
            for history in histories:
                self.assertEqual((list, floor(house), [low, high, low]), (history.__class__, history[0], history[-3:]))
                stands = led(house, (), history)
                self.assertEqual(stands[-3], stands[-1])
                rises_there.append(len(stands[-2]) - len(stands[-1]))
            self.assertNotEqual(*rises_there)

    def test_table(self):
        pairs = 0
        for house in houses():
            told = like(house)
            if told[0] != "plain":
                continue
            other = plain_house(told[1])
            swell = min(floor(house), floor(other))
            found = {((), ())}
            waiting = [((), ())]
            while waiting:
                one, two = waiting.pop()
                for up in (True, False):
                    step = next_pair(house, one, other, two, up=up)
                    if step is not None and step[1:] not in found:
                        found.add(step[1:])
                        waiting.append(step[1:])
            self.assertEqual(sorted(found), told[2])
            self.assertEqual(list, told[2].__class__)
            pairs += len(found)
            self.assertEqual(("alike", told[2]), told_apart(house, (), other, (), swell))
            for seed in range(4):
                history = [swell - 1, *some_history(seed, 12)]
                self.assertEqual(counts(house, (), history), counts(other, (), history))
        self.assertGreater(pairs, 250)

    def test_plain_houses_are_like_themselves(self):
        for seed in range(40):
            numbers = Numbers(seed)
            house = House(tuple((numbers.between(1, 9), numbers.between(-9, 0)) for _ in range(1 + seed % 8)))
            self.assertEqual(("plain", heap_of(house)), like(house)[:2])

    def test_of_one_latch_and_of_eight(self):
        self.assertEqual(("plain", [(4, -4, 1)], [((), ()), ((0,), (0,))]), like(House(((4, -4),))))
        # each holds the next one up, so that all go down at once
        ring = House(((9, 0),) * 8, tuple((k, (k + 1) % 8, 3) for k in range(8)))
        self.assertEqual(("plain", [(9, -3, 8)], [((), ()), (all_of(ring), all_of(ring))]), like(ring))
        self.assertEqual(("plain", [(BIG + 9, BIG - 3, 8)]), like(moved(ring, BIG))[:2])

    def test_renamed(self):
        for house in houses()[::3]:
            told, other = like(house), like(renamed(house, all_of(house)[::-1]))
            self.assertEqual(told[:2], other[:2])

    def test_fewer_than_none(self):
        # told of pieces alone: no house was found whose rises are alike and that has such a pair
        pieces = [(-2, 2, []), (3, 4, [(0, 1)]), (5, 6, [(-2, 2)]), (7, 7, [(-1, 1), (-2, 1)])]
        self.assertEqual([(3, 0, 1), (5, -2, 2), (5, 0, -1), (7, -2, -1), (7, -1, 1)], manies_by(pieces))
        self.assertEqual(("below", 5, 0, (0, 0, 1, 0)), below_paper(pieces))
        self.assertEqual(("below", 7, -2, (2, 1, 2, 0)), below_paper(pieces[:1] + pieces[2:]))
        self.assertIsNone(below_paper(pieces[:2]))

    def test_great_houses_are_refused(self):
        self.refused(TooMany, {"limit": 8}, lambda: like(some_house(1, 9, 3)))
        self.refused(TooMany, {"limit": 8}, lambda: like(House(((BIG, -BIG),) * 14)))
        self.refused(TooMany, {"limit": 100}, lambda: like(House(((101, 100), (5, 0)))))
        self.assertEqual("plain", like(House(((100, 99), (5, 0))))[0])

    def test_told_anew(self):
        told = like(HOUSE)
        told[1].append(None)
        told[2].append(None)
        again = like(HOUSE)
        self.assertEqual((2, 3), (len(again[1]), len(again[2])))
        like(UNLIKE)[3].clear()
        self.assertTrue(like_holds(UNLIKE, like(UNLIKE)))


class JudgeTest(unittest.TestCase):
    def judged(self, truth, house, paper):
        self.assertIs(truth, like_holds(house, paper))

    def test_plain(self):
        for house in houses():
            told = like(house)
            if told[0] != "plain":
                self.judged(False, house, ("plain", [(4, 1, len(house))], [((), ())]))
                continue
            _, heap, table = told
            self.judged(True, house, ("plain", heap, table[::-1]))
            self.judged(True, house, ("plain", heap, table + table))
            for at in range(len(table)):
                self.judged(False, house, ("plain", heap, table[:at] + table[at + 1:]))
            for at, (up, down, many) in enumerate(heap):
                for row in ((up + 1, down, many), (up, down - 1, many), (up, down, many + 1), (up, down, 0),
                            (up, down), (up, down, True) if many == 1 else (up, down, None)):
                    self.judged(False, house, ("plain", [*heap[:at], row, *heap[at + 1:]], table))
            for wrong in (tuple(heap), heap[:-1], heap[::-1] if len(heap) > 1 else None, [*heap, None], None, []):
                self.judged(False, house, ("plain", wrong, table))
            for made in (("plain", heap), ("plain",), ("plain", heap, table, table), ["plain", heap, table]):
                self.judged(False, house, made)
            for wrong in (tuple(table), None, [], [*table, None], [*table, ((), (0,))], [*table, (Yes(), ())]):
                self.judged(False, house, ("plain", heap, wrong))

    def test_of_kinds_one_alone_holds(self):
        for house in houses():
            told = like(house)
            low, high = floor(house), roof(house)
            fours = [(up, down, four_of(house, up, down)) for up in range(low, high + 1) for down in range(low, up)]
            for up, down, four in fours[::3]:
                below = four[0] - four[1] - four[2] + four[3] < 0
                self.judged(below, house, ("below", up, down, four))
                self.assertFalse(below and told[0] == "plain")
            if told[0] == "plain":
                for near in range(low, high, 2):
                    for far in range(near + 1, high + 1, 2):
                        for ahead in range(low, high + 1, 3):
                            self.judged(False, house, ("unlike", near, far, [low, ahead, near, far, near],
                                                       [low, far, near, far, near]))

    def test_unlike(self):
        for house in houses():
            told = like(house)
            if told[0] != "unlike":
                continue
            word, low, high, one, two = told
            self.judged(True, house, (word, low, high, two, one))
            for made in ((word, low, high, one, one), (word, low, high, two, two), (word, high, low, one, two),
                         (word, low - 1, high, one, two), (word, low, high + 1, one, two), (word, low, high, one),
                         (word, low, high, one, two, one), (word, low, high, tuple(one), two), [*told],
                         (word, low, high, one, tuple(two)), (word, True, high, one, two), (word, low, None, one, two),
                         (word, low, high, one[1:], two), (word, low, high, one, [floor(house) - 1, *two[1:]]),
                         (word, low, high, [floor(house) - 1, *one], two), (word, low, high, one, two[:-1]),
                         (word, low, high, one + [low], two), (word, low, high, one, [low, high, low][1:]),
                         (word, low, high, [], two), (word, low, high, one, [*two[:-1], str(low)]),
                         ("plain", low, high, one, two), (word, float(low), high, one, two)):
                self.judged(False, house, made)
            # longer histories that end alike
            self.judged(True, house, (word, low, high, [floor(house), roof(house), *one], [*two, high, low]))

    def test_low_is_below_high(self):
        histories = [-2, 5, 3, -1, 3], [-2, 3, -1, 3]
        stands = [led(UNLIKE, (), history)[-3:] for history in histories]
        self.assertEqual([[(0, 1), (0, 1), (0, 1)], [(0,), (), (0,)]], stands)
        self.judged(False, UNLIKE, ("unlike", 3, -1, *histories))
        self.judged(True, UNLIKE, ("unlike", -1, 3, *[history + [-1] for history in histories]))
        self.judged(False, UNLIKE, ("unlike", 3, 3, [-2, 5, 3, 3, 3], [-2, 3, 3, 3]))

    def test_swings_that_are_not_closed(self):
        # (0,) at 1 led to 3 and back comes again as (0, 1)
        house = House(((1, -2), (3, -1)))
        plain = [-2, 3, 1, 3, 1]
        self.assertEqual([(0,), (0, 1)], [led(house, (), [-2, 1])[-1], led(house, (), [-2, 1, 3, 1])[-1]])
        self.judged(False, house, ("unlike", 1, 3, [-2, 1, 3, 1], plain))
        self.judged(False, house, ("unlike", 1, 3, plain, [-2, 1, 3, 1]))

    def test_below(self):
        four = (0, 0, 1, 0)
        self.assertEqual(four, four_of(UNLIKE, 5, 0))
        told = ("below", 5, 0, four)
        self.judged(True, UNLIKE, told)
        for made in (("below", 5, 1, four), ("below", 4, 0, four), ("below", 5, 0, list(four)),
                     ("below", 5, 0, four[:3]), ("below", 5, 0, (*four, 0)), ("below", 5, 0, (False, 0, 1, 0)),
                     ("below", 5, 0, (0, 0, True, 0)),
                     ("below", 5, 0, (0, 0, 2, 0)), ("below", 5, 0, (1, 0, 1, 0)), ("below", 5, 0, (0, 0, 1.0, 0)),
                     ("below", 5, None, four), ("below", "5", 0, four), ("below", 5, 0), ("below", 5, 0, four, 0),
                     ["below", 5, 0, four], ("plain", 5, 0, four), ("below", 5, False, four), ("below", 0, 5, four)):
            self.judged(False, UNLIKE, made)
        for house, up, down, rises_there in ((SOME, 2, -4, (2, 1, 3, 1)), (OTHER, 1, -4, (0, 0, 2, 1))):
            self.assertEqual(rises_there, four_of(house, up, down))
            self.judged(True, house, ("below", up, down, rises_there))
            for up in range(floor(house), roof(house) + 1):
                for down in range(floor(house), up):
                    one, two, three, last = rises_there = four_of(house, up, down)
                    self.judged(one - two - three + last < 0, house, ("below", up, down, rises_there))
        far = moved(UNLIKE, BIG)
        self.judged(True, far, ("below", 5 + BIG, BIG, four))
        # beyond floor and roof nothing is below 0
        for up in range(-9, 12):
            for down in range(-9, up + 3):
                four = four_of(UNLIKE, up, down)
                self.judged(four[0] - four[1] - four[2] + four[3] < 0, UNLIKE, ("below", up, down, four))

    def test_of_anything(self):
        for house in (HOUSE, UNLIKE):
            told = like(house)
            for thing in STRANGE:
                self.judged(False, house, thing)
                for place in range(len(told)):
                    self.judged(False, house, (*told[:place], thing, *told[place + 1:]))
                for place in range(4):
                    below = ["below", 5, 0, (0, 0, 1, 0)]
                    below[place] = thing
                    if not (place == 2 and thing.__class__ is int):
                        self.judged(False, UNLIKE, tuple(below))
            for word in (*NO_WORDS, "Plain", ""):
                self.judged(False, house, (word, *told[1:]))
            self.judged(False, house, ())
            for swells in ([Angry()], [Yes()], [None], [True]):
                self.judged(False, UNLIKE, ("unlike", -1, 3, swells, swells))

    def test_of_great_houses(self):
        house = plain_house([(5, -BIG, 9), (BIG, 3, 5)])
        nobody = House(((5, -BIG),) * 9 + ((BIG, 3),) * 5)
        nine, every = tuple(range(9)), tuple(range(14))
        table = [((), ()), (nine, nine), (every, every)]
        self.judged(True, nobody, ("plain", [(5, -BIG, 9), (BIG, 3, 5)], table))
        self.judged(False, nobody, ("plain", [(5, -BIG, 8), (BIG, 3, 6)], table))
        self.judged(False, nobody, ("plain", [(5, -BIG, 9), (BIG, 3, 5)], table[:2]))
        self.assertEqual(house, nobody)
        again = House(UNLIKE.latches() + ((BIG, -BIG),) * 9, UNLIKE.helps())
        self.judged(True, again, ("unlike", -1, 3, [-BIG, 5, -1, 3, -1], [-BIG, 3, -1, 3, -1]))
        self.judged(False, again, ("unlike", -1, 3, [-2, 5, -1, 3, -1], [-2, 3, -1, 3, -1]))
        self.judged(True, again, ("below", 5, 0, (0, 0, 1, 0)))


if __name__ == "__main__":
    unittest.main()
