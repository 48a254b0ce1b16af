"""Promises [6] to [28] of a great house: the answers stay what they are, come quickly, and leave nothing behind."""

import time
import unittest

from swaykeep.errors import NoHouse, NoText
from swaykeep.falls import branch, falls, going, going_paper
from swaykeep.houses import House
from swaykeep.htexts import read_house, show_house
from swaykeep.legs import led, there_and_back
from swaykeep.pulls import span, wants
from swaykeep.settling import climb_paper, climb_row, settled_at
from swaykeep.turning import moved, renamed, turned
from tests.samples import (BIG, Numbers, Refusals, all_of, slow_falls, slow_pull, slow_row, slow_settled, slow_wants,
                           some_house)

LATCHES = tuple((100 * k, 100 * k - 50) for k in range(14))
HELPS = tuple((a, b, 1 + (a * b) % 9) for a in range(14) for b in range(14) if a != b)
GREAT = House(LATCHES, HELPS)
TEN = House(LATCHES[:10], tuple(row for row in HELPS if row[0] < 10 and row[1] < 10))
EVERY = all_of(GREAT)
TURNED_ROUND = EVERY[::-1]
TEXT = show_house(GREAT)
FALLS = [(0, (0,)), (99, (1,)), (196, (2,)), (288, (3,)), (381, (4,)), (481, (5,)), (576, (6,)), (663, (7,)),
         (757, (8,)), (891, (9,)), (954, (10,)), (1051, (11,)), (1152, (12,)), (1236, (13,))]
PULLS = (0, 1, 4, 12, 19, 19, 24, 37, 43, 9, 46, 49, 48, 64)

# each call, and how often it is asked: before they were made quick, each row took about a second and a half
ASKED = (
    (lambda: House(LATCHES, HELPS), 3000), (lambda: moved(GREAT, 5), 3300), (lambda: turned(GREAT), 3200),
    (lambda: renamed(GREAT, TURNED_ROUND), 3000), (lambda: read_house(TEXT), 1900),
    (lambda: climb_row(GREAT, (), 100000), 7500), (lambda: climb_paper(GREAT, (), 100000), 6500),
    (lambda: led(GREAT, (), [-100000, 100000] * 7), 4600), (lambda: there_and_back(GREAT, (), -100000, 100000), 22000),
    (lambda: falls(GREAT, (), -100000, 100000), 2000), (lambda: branch(GREAT, (), -100000), 2000),
    (lambda: going(GREAT, (), -100000, 13), 2000), (lambda: going_paper(GREAT, (), -100000, 13), 1900),
    (lambda: wants(GREAT, (), 0), 75000), (lambda: span(GREAT, ()), 75000), (lambda: settled_at(TEN, 300), 180))
SECONDS = 20


class AnswersTest(Refusals, unittest.TestCase):
    def test_houses(self):
        self.assertEqual((LATCHES, HELPS), (GREAT.latches(), GREAT.helps()))
        self.assertEqual(GREAT, House(LATCHES, HELPS[::-1]))
        self.assertEqual([sum(many for _, other, many in HELPS if other == k) for k in EVERY],
                         [GREAT.all_help(k) for k in EVERY])
        for place in (0, 91, 181):
            one, other, many = HELPS[place]
            for wrong in ((one, one, many), (one, other, 0), (one, other, 10), (one, 14, many), HELPS[place - 1]):
                if place > 0 or wrong != HELPS[-1]:
                    self.refused(NoHouse, {"what": "help", "number": place},
                                 lambda: House(LATCHES, (*HELPS[:place], wrong, *HELPS[place + 1:])))
        self.refused(NoHouse, {"what": "help", "number": 182}, lambda: House(LATCHES, (*HELPS, HELPS[5])))

    def test_turned_moved_renamed(self):
        self.assertEqual(House(tuple((up + 5, down + 5) for up, down in LATCHES), HELPS), moved(GREAT, 5))
        lent = [GREAT.all_help(k) for k in EVERY]
        self.assertEqual(House(tuple((help - down, help - up) for help, (up, down) in zip(lent, LATCHES)), HELPS),
                         turned(GREAT))
        self.assertEqual(GREAT, turned(turned(GREAT)))
        self.assertEqual(GREAT, moved(moved(GREAT, BIG), -BIG))
        other = renamed(GREAT, TURNED_ROUND)
        self.assertEqual(House(LATCHES[::-1], tuple((13 - a, 13 - b, many) for a, b, many in HELPS)), other)
        self.assertEqual((tuple(sorted(other.helps())), "House(14, 182)"), (other.helps(), repr(other)))
        numbers = Numbers(3)
        for seed in range(40):
            house = some_house(seed, 14)
            order = tuple(sorted(EVERY, key=lambda _: numbers.below(1000)))
            told = renamed(house, order)
            self.assertEqual(tuple(house.latches()[k] for k in order), told.latches())
            self.assertEqual(sorted((order.index(a), order.index(b), many) for a, b, many in house.helps()),
                             list(told.helps()))
            self.assertEqual(told, House(told.latches(), told.helps()))
            for made in (told, moved(house, -3), turned(house)):
                # a made house answers as one that is made of its latches and helps
                again = House(made.latches(), made.helps())
                self.assertEqual((again.helps(), repr(again)), (made.helps(), repr(made)))
                for stand in ((), EVERY, (2, 3, 7, 11)):
                    self.assertEqual(wants(again, stand, -9), wants(made, stand, -9))
                    self.assertEqual(span(again, stand), span(made, stand))
                self.assertEqual([again.all_help(k) for k in EVERY], [made.all_help(k) for k in EVERY])

    def test_texts(self):
        self.assertEqual(TEXT, "".join([f"latch {up} {down}\n" for up, down in LATCHES]
                                       + [f"help {a} {b} {many}\n" for a, b, many in HELPS]))
        self.assertEqual(GREAT, read_house(TEXT))
        rows = TEXT.splitlines(keepends=True)
        for place in (0, 13, 14, 100, 195):
            for row in ("\n", "help 1 2\n", "latch 1\n", "help 1 2 x\n", "latch 1 02\n", "help 1 2 3 4\n", "x"):
                self.refused(NoText, {"at": place + 1},
                             lambda: read_house("".join([*rows[:place], row, *rows[place + 1:]])))
        self.refused(NoText, {"at": 16}, lambda: read_house("".join([*rows[:15], rows[0], *rows[15:]])))
        self.refused(NoText, {"at": 196}, lambda: read_house(TEXT[:-1]))
        self.refused(NoText, {"at": 197}, lambda: read_house(TEXT + "help"))
        long = House(((int("9" * 700), -int("8" * 700)),))
        self.assertEqual(long, read_house(show_house(long)))
        # more figures than int reads at once
        self.assertEqual((10 ** 4400 - 1) // 9 * 7, read_house("latch " + "7" * 4400 + " 0\n").up_at(0))

    def test_settling_and_legs(self):
        self.assertEqual(list(EVERY), climb_row(GREAT, (), 100000))
        self.assertEqual(("climbed", tuple((k, 100000 + PULLS[k]) for k in EVERY), ()),
                         climb_paper(GREAT, (), 100000))
        self.assertEqual([(), EVERY] * 7, led(GREAT, (), [-100000, 100000] * 7))
        self.assertEqual((EVERY, ()), there_and_back(GREAT, (), -100000, 100000))
        self.assertEqual([(0, 1, 2, 3)], settled_at(TEN, 300))
        self.assertEqual(([0], []), wants(GREAT, (), 0))
        self.assertEqual(([3, 4, 5, 6], []), wants(GREAT, (0, 1, 2), 600))
        self.assertEqual((None, -1), span(GREAT, ()))
        self.assertEqual((-49, 98), span(GREAT, (0,)))

    def test_falls(self):
        self.assertEqual(FALLS, falls(GREAT, (), -100000, 100000))
        self.assertEqual(FALLS, branch(GREAT, (), -100000))
        self.assertEqual(FALLS[:4], falls(GREAT, (), -100000, 380))
        self.assertEqual(FALLS[:5], falls(GREAT, (), -100000, 381))
        self.assertEqual([swell for swell, _ in FALLS], [going(GREAT, (), -100000, k) for k in EVERY])
        self.assertEqual(("goes", 13, FALLS[:13], ("fall", "up", EVERY[:13], 1236, [(13,)])),
                         going_paper(GREAT, (), -100000, 13))

    def test_beside_the_slow_ones(self):
        for seed in range(12):
            house = some_house(seed, 14, 20 + seed * 9)
            numbers = Numbers(seed)
            for _ in range(4):
                stand = tuple(k for k in EVERY if numbers.below(2))
                swell = numbers.between(-60, 9)
                self.assertEqual(slow_wants(house, stand, swell), wants(house, stand, swell))
                row, end = slow_row(house, stand, swell, EVERY, True)
                self.assertEqual(row, climb_row(house, stand, swell))
                behind = tuple((k, slow_pull(house, end, k, swell)) for k in EVERY if k not in end)
                self.assertEqual(behind, climb_paper(house, stand, swell)[2])
            self.assertEqual(slow_falls(house, (), -130, 15)[0], falls(house, (), -130, 15))
            self.assertEqual(slow_falls(house, EVERY, 15, -130)[0], falls(house, EVERY, 15, -130))
        for seed in range(6):
            house = some_house(seed, 10, seed * 2)
            for swell in (-9, -4, 0, 5):
                self.assertEqual(slow_settled(house, swell), settled_at(house, swell))


class NothingIsLeftTest(unittest.TestCase):
    def test_told_lists_are_new_and_the_house_stays_as_it_is(self):
        house = House(LATCHES, HELPS)
        ahead = repr(vars(house))
        for deed in (lambda: wants(house, (), 0)[0], lambda: climb_row(house, (), 100000),
                     lambda: led(house, (), [0 - BIG, BIG]), lambda: falls(house, (), -BIG, BIG),
                     lambda: branch(house, (), -BIG), lambda: going_paper(house, (), -BIG, 13)[2],
                     lambda: going_paper(house, (), -BIG, 13)[3][4], lambda: settled_at(TEN, 300)):
            told = deed()
            kept = list(told)
            told.append(None)
            told.reverse()
            self.assertEqual(kept, deed())
        for made in (moved(house, 5), turned(house), renamed(house, TURNED_ROUND)):
            self.assertNotEqual(house, made)
        self.assertEqual(ahead, repr(vars(house)))


class TimeTest(unittest.TestCase):
    def test_each_call_very_often(self):
        begun = time.perf_counter()
        for deed, many in ASKED:
            for _ in range(many):
                deed()
            self.assertLess(time.perf_counter() - begun, SECONDS)


if __name__ == "__main__":
    unittest.main()
