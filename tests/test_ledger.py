"""Promises [55] and [56]: the ledger of a history, and Ledgers."""

import unittest

from swaykeep.errors import NoHistory, NoLatch, NoStand, NoSwell, Unsettled
from swaykeep.houses import House
from swaykeep.ledger import Ledger, ledger
from swaykeep.legs import led
from swaykeep.residues import residue, turns
from swaykeep.swings import goings, loss, work
from tests.samples import (BIG, STRANGE, Numbers, Refusals, slow_settled, some_history, some_house, some_houses)
from tests.test_residues import inner_places

HOUSE = House(((3, 1), (5, 2)), ((0, 1, 1),))
GREAT = House(tuple((100 * k, 100 * k - 50) for k in range(14)),
              tuple((a, b, 1 + (a * b) % 9) for a in range(14) for b in range(14) if a != b))


def slow_ledger(house, stand, history, numbers):
    """By the words: drawn inner swings of the turns are taken out, each one's loss of the stand that stands there."""
    left = turns(history)
    stands = led(house, stand, left)
    rows = {}
    while inner_places(left):
        places = inner_places(left)
        place = places[numbers.below(len(places))]
        one, other = left[place:place + 2]
        row = (min(one, other), max(one, other), loss(house, stands[place], one, other))
        rows[row] = rows.get(row, 0) + 1
        del left[place:place + 2]
        stands = led(house, stand, left)
    return left, sorted((*row, many) for row, many in rows.items())


def told_of(one):
    latches = range(len(one.house_now()))
    return (one.house_now(), one.stand_now(), one.swell_now(), one.rest(), one.rows(), one.loss(), one.work(),
            [one.turned(latch) for latch in latches], [one.last(latch) for latch in latches])


def slow_told(house, stand, history):
    """All that a Ledger tells of the swells that it went to, from the goings of the whole history."""
    rest, rows = slow_ledger(house, stand, history, Numbers(0))
    went = [row for legs in goings(house, stand, history) for row in legs]
    latches = range(len(house))
    turned = [tuple(sum(1 for one, way, _ in went if (one, way) == (latch, told)) for told in ("up", "down"))
              for latch in latches]
    last = [([None] + [swell for one, _, swell in went if one == latch])[-1] for latch in latches]
    return (house, led(house, stand, history)[-1], history[-1], rest, rows,
            sum(lost * many for _, _, lost, many in rows), work(went), turned, last)


class LedgerOfHistoryTest(Refusals, unittest.TestCase):
    def test_plain_ones(self):
        self.assertEqual(([0], []), ledger(HOUSE, (), [0]))
        self.assertEqual(([0], []), ledger(HOUSE, (), (0, 0)))
        self.assertEqual(([0, 9], []), ledger(HOUSE, (), [0, 5, 9]))
        self.assertEqual(([0, 9], [(1, 9, 5, 1)]), ledger(HOUSE, (), [0, 9, 1, 9]))
        self.assertEqual(([0, 9], [(1, 9, 5, 2)]), ledger(HOUSE, (), [0, 9, 1, 9, 1, 9]))
        self.assertEqual(([0, 9], [(6, 7, 0, 1)]), ledger(HOUSE, (), [0, 7, 6, 9]))
        self.assertEqual(([0, 9, 1], [(6, 7, 0, 2)]), ledger(HOUSE, (), [0, 7, 6, 9, 6, 7, 1]))

    def test_of_one_low_and_high_losses_may_be_unlike(self):
        # the swing from 2 to 4 turns latch 1 where latch 0 is down, and moves nothing where both are up already
        house = House(((6, 0), (4, 2)), ((0, 1, 9),))
        history = [1, 5, 2, 4, 2, 3, -9, 9, 1, 4, 2, 9]
        rest, rows = ledger(house, (), history)
        told = [(low, high, lost) for low, high, lost, _ in rows if (low, high) == (2, 4)]
        self.assertEqual([(2, 4, 0), (2, 4, 2)], told)
        self.assertEqual((rest, rows), slow_ledger(house, (), history, Numbers(1)))

    def test_whichever_is_taken_out_first(self):
        many_rows = 0
        for seed, house in enumerate(some_houses(60)):
            history = some_history(seed, 16, -12, 8)
            for stand in slow_settled(house, history[0]):
                rest, rows = ledger(house, stand, history)
                for again in range(3):
                    self.assertEqual((rest, rows), slow_ledger(house, stand, history, Numbers(seed * 5 + again)))
                self.assertEqual(residue(history), rest)
                self.assertEqual((len(turns(history)) - len(rest)) // 2, sum(row[3] for row in rows))
                whole = work(goings(house, stand, history))
                self.assertEqual(whole, work(goings(house, stand, rest)) + sum(row[2] * row[3] for row in rows))
                many_rows += len(rows) > 2
        self.assertGreater(many_rows, 30)

    def test_kinds(self):
        told = ledger(HOUSE, (), [0, 9, 1, 9])
        self.assertEqual((tuple, list, list), (told.__class__, told[0].__class__, told[1].__class__))
        self.assertEqual(tuple, told[1][0].__class__)
        history = [0, 9, 1, 9]
        ledger(HOUSE, (), history)[0].append(4)
        self.assertEqual([0, 9, 1, 9], history)

    def test_refused(self):
        for thing in (*STRANGE, (2,), (-1,), (1, 0)):
            if not (isinstance(thing, tuple) and thing == ()):
                self.refused(NoStand, {"stand": thing}, lambda: ledger(HOUSE, thing, []))
        self.refused(NoHistory, {"place": 0}, lambda: ledger(HOUSE, (0,), []))
        for thing in STRANGE:
            self.refused(NoHistory, {"place": 1}, lambda: ledger(HOUSE, (0,), [0, thing, None]))
        self.refused(Unsettled, {"latch": 0, "swell": 1}, lambda: ledger(HOUSE, (0,), [1, 3]))

    def test_long_ones(self):
        numbers = Numbers(4)
        for history in ([(-1) ** place * (BIG - place) for place in range(300)],
                        [numbers.between(-400, 1400) for _ in range(300)],
                        [100, *[1250 - 20 * (place % 2) for place in range(299)]]):
            stand = led(GREAT, (), [-BIG * 9, history[0]])[-1]
            rest, rows = ledger(GREAT, stand, history)
            self.assertEqual(residue(history), rest)
            self.assertEqual((len(turns(history)) - len(rest)) // 2, sum(row[3] for row in rows))


class LedgerTest(Refusals, unittest.TestCase):
    def test_begins_with_nothing(self):
        one = Ledger(HOUSE, (0,), 2)
        self.assertEqual((HOUSE, (0,), 2, [2], [], 0, 0, [(0, 0), (0, 0)], [None, None]), told_of(one))
        self.assertEqual((1, "Ledger(2, 0)"), (len(one), repr(one)))

    def test_to_tells_the_swings_that_close(self):
        one = Ledger(HOUSE, (), 0)
        self.assertEqual([], one.to(9))
        self.assertEqual([], one.to(1))
        self.assertEqual([], one.to(7))
        self.assertEqual([], one.to(6))
        self.assertEqual([(6, 7, 0), (1, 9, 5)], one.to(9))
        self.assertEqual([], one.to(9))
        self.assertEqual([], one.to(12))
        self.assertEqual((HOUSE, (0, 1), 12, [0, 12], [(1, 9, 5, 1), (6, 7, 0, 1)], 5, 12, [(2, 1), (2, 1)], [3, 4]),
                         told_of(one))
        self.assertEqual((2, "Ledger(12, 5)"), (len(one), repr(one)))

    def test_at_any_time_the_ledger_of_its_whole_history(self):
        nested = 0
        for seed, house in enumerate(some_houses(80)):
            history = some_history(seed, 14, -12, 8)
            if seed % 3 == 0:
                history = sorted(history, key=abs)[::-1] + [8, -12, 9]
            for stand in slow_settled(house, history[0])[:2]:
                one = Ledger(house, stand, history[0])
                all_closed = []
                for many, swell in enumerate(history[1:], start=2):
                    closed = one.to(swell)
                    all_closed.extend(closed)
                    for (low, high, _), (outer_low, outer_high, _) in zip(closed, closed[1:]):
                        self.assertTrue(outer_low <= low and high <= outer_high)
                        nested += 1
                    self.assertEqual(slow_told(house, stand, history[:many]), told_of(one))
                self.assertEqual(sorted(all_closed), [row[:3] for row in one.rows() for _ in range(row[3])])
        self.assertGreater(nested, 20)

    def test_through_as_if_each_had_been_gone(self):
        for seed, house in enumerate(some_houses(40)):
            history = some_history(seed, 1 + seed % 6, -12, 8)
            for stand in slow_settled(house, -3)[:3]:
                for times in (0, 1, 2, 3, 7):
                    one, slow = Ledger(house, stand, -3), Ledger(house, stand, -3)
                    one.to(2)
                    slow.to(2)
                    for swell in history * times:
                        slow.to(swell)
                    self.assertEqual(slow.stand_now(), one.through(history, times=times))
                    self.assertEqual(told_of(slow), told_of(one))
                    self.assertEqual(slow_told(house, stand, [-3, 2, *history * times]), told_of(one))
                    self.assertEqual(slow, one)

    def test_so_many_times(self):
        one = Ledger(HOUSE, (), 0)
        self.assertEqual((), one.through((9, 1), times=10 ** 29))
        often = 10 ** 29
        self.assertEqual((HOUSE, (), 1, [0, 9, 1], [(1, 9, 5, often - 1)], 5 * often - 5, 5 * often,
                          [(often, often)] * 2, [1, 1]), told_of(one))
        self.assertEqual((), one.through([1]))
        self.assertEqual((0, 1), one.through([9]))
        self.assertEqual([(1, 9, 5, often)], one.rows())
        # what went the first time alone is counted once
        one = Ledger(HOUSE, (), 0)
        one.through([9, 3], times=often)
        self.assertEqual(([(1, 0), (1, 0)], [3, 4], [(3, 9, 0, often - 1)], 0),
                         ([one.turned(0), one.turned(1)], [one.last(0), one.last(1)], one.rows(), one.loss()))
        great = Ledger(GREAT, (), -BIG)
        history = [(-1) ** place * (BIG - place * 1000) for place in range(300)]
        great.through(history, times=often)
        self.assertEqual(residue([-BIG, *history * 2]), great.rest())
        self.assertEqual((150 * often, 150 * often), great.turned(13))

    def test_refused_when_it_is_made(self):
        for thing in (*STRANGE, (2,), (-1,), (1, 0), [0]):
            if not (isinstance(thing, tuple) and thing == ()):
                self.refused(NoStand, {"stand": thing}, lambda: Ledger(HOUSE, thing, None))
        for thing in STRANGE:
            self.refused(NoSwell, {"swell": thing}, lambda: Ledger(HOUSE, (), thing))
        self.refused(Unsettled, {"latch": 0, "swell": 9}, lambda: Ledger(HOUSE, (), 9))

    def test_refused_deeds_change_nothing(self):
        one = Ledger(HOUSE, (), 0)
        one.through([9, 1, 9])
        ahead = told_of(one)
        for thing in STRANGE:
            self.refused(NoSwell, {"swell": thing}, lambda: one.to(thing))
            self.refused(NoLatch, {"latch": thing}, lambda: one.turned(thing))
            self.refused(NoLatch, {"latch": thing}, lambda: one.last(thing))
            for times in (0, 1, 5):
                self.refused(NoHistory, {"place": 1}, lambda: one.through([-4, thing, None], times=times))
        for latch in (-1, 2):
            self.refused(NoLatch, {"latch": latch}, lambda: one.turned(latch))
            self.refused(NoLatch, {"latch": latch}, lambda: one.last(latch))
        for times in (0, 1, 10 ** 29):
            self.refused(NoHistory, {"place": 0}, lambda: one.through([], times=times))
        self.assertEqual(ahead, told_of(one))
        self.assertRaises(TypeError, one.through, [1], 2)

    def test_what_is_told_is_new(self):
        one = Ledger(HOUSE, (), 0)
        one.through([9, 1])
        one.to(9).append(1)
        one.rest().append(3)
        one.rows().append((0, 0, 0, 0))
        self.assertEqual(([0, 9], [(1, 9, 5, 1)]), (one.rest(), one.rows()))
        self.assertEqual((2, 1), one.turned(0))
        self.assertIsInstance(one.turned(0), tuple)

    def test_equal(self):
        one, other = Ledger(HOUSE, (), 0), Ledger(HOUSE, (), 0)
        self.assertTrue(one == other)
        one.through([9, 1, 9])
        self.assertFalse(one == other)
        other.through([9])
        self.assertFalse(one == other)
        other.through([1, 9])
        self.assertTrue(one == other)
        one.through([1, 9])
        self.assertFalse(one == other)
        self.assertFalse(Ledger(HOUSE, (), 0) == Ledger(HOUSE, (), 1))
        self.assertFalse(Ledger(HOUSE, (), 2) == Ledger(HOUSE, (0,), 2))
        self.assertFalse(Ledger(HOUSE, (), 0) == Ledger(House(((3, 1), (5, 2))), (), 0))
        # of one stand and swell, but with unlike swells left
        one, other = Ledger(HOUSE, (), 1), Ledger(HOUSE, (), 0)
        other.to(1)
        self.assertFalse(one == other)
        for thing in (None, 0, "Ledger(0, 0)", HOUSE, object()):
            self.assertFalse(Ledger(HOUSE, (), 0) == thing)
            self.assertTrue(Ledger(HOUSE, (), 0) != thing)


class OneHouseOfFourTest(unittest.TestCase):
    def test_whole_work_of_great_houses(self):
        for seed in range(6):
            house = some_house(seed, 14, 50)
            history = some_history(seed, 30, -90, 15)
            stand = led(house, (), [-10 ** 6, history[0]])[-1]
            one = Ledger(house, stand, history[0])
            one.through(history[1:])
            self.assertEqual(work(goings(house, stand, history)), one.work())
            self.assertEqual((one.rest(), one.rows()), ledger(house, stand, history))
            self.assertEqual(one.work(), work(goings(house, stand, one.rest())) + one.loss())


if __name__ == "__main__":
    unittest.main()
