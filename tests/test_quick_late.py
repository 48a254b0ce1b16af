"""Promises [57] to [90] of great houses: answers come quickly, also where very many are asked."""

import time
import unittest

from swaykeep.apart import counts, next_pair, told_apart
from swaykeep.bench import Bench
from swaykeep.comings import coming, fewest, island_of, leaving
from swaykeep.falls import floor
from swaykeep.houses import House
from swaykeep.judge_apart import apart_shows
from swaykeep.judge_comings import coming_shows
from swaykeep.judge_like import like_holds
from swaykeep.likeness import like
from swaykeep.orders import read_order
from swaykeep.reach import islands, reached
from swaykeep.rises import closed_swings, counted, first_rise, rises
from swaykeep.htexts import show_house
from swaykeep.turning import renamed
from tests.samples import BIG, all_of, some_house

HELPS = tuple((a, b, 1 + (a * b) % 9) for a in range(14) for b in range(14) if a != b)
GREAT = House(tuple((100 * k, 100 * k - 50) for k in range(14)), HELPS)
FAR = House(tuple((BIG // (k + 1), -BIG // (14 - k)) for k in range(14)), HELPS[::4])
# all swings lie within one another
NEST = House((*[(14 - (k + 1) // 2 * 2, -13 + k // 2 * 2) for k in range(13)], (15, -15)))
IN_NEST = (1, 3, 5, 7, 9, 11)
EIGHT = some_house(8, 8, 12)
ABOUT = renamed(EIGHT, all_of(EIGHT)[::-1])
PLAIN = House(tuple((9 - k, -8 + k) for k in range(8)))
LESS = House(tuple((9 - k, -8 + k + k // 7) for k in range(8)))
FLOOR = floor(EIGHT)
COMING = coming(NEST, IN_NEST)
ALIKE = told_apart(EIGHT, (), ABOUT, (), FLOOR)
APART = told_apart(PLAIN, (), LESS, (), -8)
WIDE = House(tuple((50 - 3 * k, -50 + 2 * k) for k in range(8)))
LIKE = like(WIDE)
LONG = [(k * 37) % 101 - 50 for k in range(300)]
GREAT_ROW = "house a " + show_house(GREAT).replace("\n", ";")
SWELLS = ",".join(str(swell * 10 ** 25) for swell in LONG)
BENCH = Bench()
BENCH.sit([GREAT_ROW, "keep k a -1 -", "tally l a -1 -", f"through k 3 {SWELLS}", f"repeat l 1{'0' * 29} {SWELLS}"])
ROWS = [row for k in range(50) for row in (f"to k {k * 77 % 1300}", f"lead l {k * 55 % 1300}", "mark k here",
                                           f"through k 1{'0' * 29} 5,900,-7,{k}", "undo k", "twin m k")]

ASKED = (
    (lambda: island_of(NEST, IN_NEST), 400), (lambda: fewest(NEST, IN_NEST), 400), (lambda: coming(NEST, IN_NEST), 400),
    (lambda: coming_shows(NEST, IN_NEST, COMING), 400), (lambda: leaving(GREAT, (0, 1, 2)), 1000),
    (lambda: coming(GREAT, (0, 1, 2)), 1000), (lambda: coming(FAR, ()), 1000), (lambda: island_of(FAR, (3,)), 1000),
    (lambda: reached(GREAT), 1000), (lambda: reached(FAR, most=20000), 300), (lambda: islands(EIGHT), 100),
    (lambda: islands(PLAIN), 100), (lambda: counts(GREAT, (), [-BIG, BIG] * 150), 20),
    (lambda: next_pair(GREAT, (0,), FAR, ()), 10000), (lambda: told_apart(EIGHT, (), ABOUT, (), FLOOR), 1000),
    (lambda: apart_shows(EIGHT, (), ABOUT, (), FLOOR, ALIKE), 1000), (lambda: told_apart(PLAIN, (), LESS, (), -8), 200),
    (lambda: apart_shows(PLAIN, (), LESS, (), -8, APART), 200),
    (lambda: first_rise(WIDE, -3, 40), 2000), (lambda: closed_swings(WIDE, -3, 40), 200), (lambda: rises(WIDE), 100),
    (lambda: counted(WIDE, LONG), 100), (lambda: like(WIDE), 100), (lambda: like(EIGHT), 1000),
    (lambda: like_holds(WIDE, LIKE), 100), (lambda: read_order(GREAT_ROW), 500),
    (lambda: read_order(f"through k 5 {SWELLS}"), 500), (lambda: BENCH.say("next k up"), 10000),
    (lambda: BENCH.say("rows l"), 500), (lambda: BENCH.say("text a"), 1000), (lambda: BENCH.copied(), 1000),
    (lambda: BENCH.copied().sit(ROWS), 10), (lambda: BENCH.said_again(BENCH.log() + ROWS), 10))
SECONDS = 60


class TimeTest(unittest.TestCase):
    def test_what_is_asked(self):
        self.assertEqual("plain", LIKE[0])
        self.assertTrue(like_holds(WIDE, LIKE))
        self.assertEqual(300, len(ROWS))
        self.assertEqual(300, len(BENCH.copied().sit(ROWS)))
        self.assertEqual(("come", 13), (COMING[0], len(COMING[1])))
        self.assertEqual("alike", ALIKE[0])
        self.assertEqual("apart", APART[0])
        for told in (coming_shows(NEST, IN_NEST, COMING), apart_shows(EIGHT, (), ABOUT, (), FLOOR, ALIKE),
                     apart_shows(PLAIN, (), LESS, (), -8, APART)):
            self.assertIs(True, told)

    def test_each_call_very_often(self):
        begun = time.perf_counter()
        for deed, many in ASKED:
            for _ in range(many):
                deed()
            self.assertLess(time.perf_counter() - begun, SECONDS)


if __name__ == "__main__":
    unittest.main()
