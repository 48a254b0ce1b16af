"""Promises [49] to [54]: goings, work, closed swings, their papers and the judge."""

import unittest

from swaykeep.errors import NoHistory, NoStand, NoSwell, NotClosed, TooMany, Unsettled
from swaykeep.houses import House
from swaykeep.judge_swings import swing_holds
from swaykeep.legs import bears, led, leg
from swaykeep.swings import area, branches, goings, latch_turns, loss, swing_paper, work
from tests.samples import (BIG, NO_WORDS, STRANGE, Refusals, slow_falls, slow_settled, some_history, some_house,
                           some_houses)

HOUSE = House(((3, 1), (5, 2)), ((0, 1, 1),))
ASKED = (latch_turns, loss, area, branches, swing_paper)


def slow_goings(house, stand, start, end):
    way = "up" if end >= start else "down"
    return [(latch, way, swell) for swell, latches in slow_falls(house, stand, start, end)[0] for latch in latches]


def starts_of(houses, swells=(-9, -2, 4)):
    return [(house, stand, swell) for house in houses for swell in swells for stand in slow_settled(house, swell)]


def closed_swings(houses):
    """(house, stand, start, far) of swings that are closed, both ways."""
    return [(house, stand, start, start + by) for house, stand, start in starts_of(houses)
            for by in (-20, -7, -2, 0, 1, 4, 11, 20) if bears(house, stand, start, start + by)]


class GoingsTest(Refusals, unittest.TestCase):
    def test_plain_ones(self):
        self.assertEqual([], goings(HOUSE, (), [0]))
        self.assertEqual([[], []], goings(HOUSE, (), [0, 2, 0]))
        self.assertEqual([[(0, "up", 3), (1, "up", 4)], [(0, "down", 1), (1, "down", 1)], [(0, "up", 3)]],
                         goings(HOUSE, (), (0, BIG, -BIG, 3)))
        self.assertEqual([[(1, "down", 2)], []], goings(House(((3, 1), (5, 2))), (0, 1), [4, 2, 4]))

    def test_by_steps(self):
        for seed, house in enumerate(some_houses(40)):
            history = some_history(seed, 6)
            for stand in slow_settled(house, history[0]):
                told = goings(house, stand, history)
                stands = led(house, stand, history)
                self.assertEqual([slow_goings(house, ahead, start, end)
                                  for ahead, start, end in zip(stands, history, history[1:])], told)
                self.assertIsInstance(told, list)
                self.assertTrue(all(row.__class__ is list for row in told))

    def test_up_and_down_by_turns_and_one_apart_at_least(self):
        for seed, house in enumerate(some_houses(60)):
            history = some_history(seed, 15)
            for stand in slow_settled(house, history[0])[:2]:
                went = [row for legs in goings(house, stand, history) for row in legs]
                for latch in range(len(house)):
                    own = [(way, swell) for one, way, swell in went if one == latch]
                    for (way, swell), (next_way, next_swell) in zip(own, own[1:]):
                        self.assertNotEqual(way, next_way)
                        self.assertGreaterEqual((swell - next_swell) * (1 if way == "up" else -1), 1)

    def test_work(self):
        self.assertEqual(0, work([]))
        self.assertEqual(0, work([[], [], []]))
        self.assertEqual(7, work([(0, "up", 3), (1, "up", 4)]))
        self.assertEqual(-3, work([(0, "down", 1), (1, "down", 2)]))
        self.assertEqual(4, work([[(0, "up", 3), (1, "up", 4)], [], [(0, "down", 1), (1, "down", 2)]]))
        self.assertEqual(2 * BIG, work([[(0, "up", BIG)], [(0, "down", -BIG)]]))
        self.assertEqual(0, work([[(0, "up", -5)], [(0, "down", -5)]]))
        for house, stand, start in starts_of(some_houses(10)):
            history = [start, start + 9, start - 12, start]
            told = goings(house, stand, history)
            self.assertEqual(work(told), sum(work(row) for row in told))

    def test_refused(self):
        for thing in (*STRANGE, (2,), (-1,), (1, 0)):
            if not (isinstance(thing, tuple) and thing == ()):
                self.refused(NoStand, {"stand": thing}, lambda: goings(HOUSE, thing, []))
        self.refused(NoHistory, {"place": 0}, lambda: goings(HOUSE, (0,), []))
        for thing in STRANGE:
            self.refused(NoHistory, {"place": 1}, lambda: goings(HOUSE, (0,), [0, thing, None]))
        self.refused(Unsettled, {"latch": 0, "swell": 1}, lambda: goings(HOUSE, (0,), [1, 3]))


class SwingTest(Refusals, unittest.TestCase):
    def test_plain_ones(self):
        self.assertEqual([(0, 3, 1), (1, 4, 1)], latch_turns(HOUSE, (), 0, 9))
        self.assertEqual(5, loss(HOUSE, (), 0, 9))
        self.assertEqual(3, area(HOUSE, (), 0, 9))
        self.assertEqual([(0, 3, 1), (1, 4, 1)], latch_turns(HOUSE, (0, 1), 6, 0))
        self.assertEqual([(0, 0, 0), (1, 0, 0), (2, 0, 2), (3, 1, 2), (4, 2, 2)], branches(HOUSE, (), 0, 4))
        self.assertEqual([(0, 0, 0), (1, 0, 0), (2, 0, 2), (3, 1, 2), (4, 2, 2)], branches(HOUSE, (0, 1), 4, 0))
        self.assertEqual(("swing", [("fall", "up", (), 3, [(0,)]), ("fall", "up", (0,), 4, [(1,)])],
                          [("fall", "down", (0, 1), 1, [(0, 1)])], 5), swing_paper(HOUSE, (), 0, 9))

    def test_of_no_turns(self):
        for stand, start, far in (((), 0, 0), ((), 0, 2), ((), 0, -5), ((0,), 3, 2), ((0,), 2, 3)):
            self.assertEqual([], latch_turns(HOUSE, stand, start, far))
            self.assertEqual(0, loss(HOUSE, stand, start, far))
            self.assertEqual(0, area(HOUSE, stand, start, far))
            low, high = sorted((start, far))
            self.assertEqual([(swell, len(stand), len(stand)) for swell in range(low, high + 1)],
                             branches(HOUSE, stand, start, far))
            self.assertEqual(("swing", [], [], 0), swing_paper(HOUSE, stand, start, far))
            self.assertIs(True, swing_holds(HOUSE, stand, start, far, ("swing", [], [], 0)))

    def test_by_steps(self):
        moving = 0
        for house, stand, start, far in closed_swings(some_houses(25)):
            there = slow_goings(house, stand, start, far)
            back = slow_goings(house, leg(house, stand, start, far), far, start)
            told = latch_turns(house, stand, start, far)
            self.assertEqual(sorted(latch for latch, _, _ in there), [latch for latch, _, _ in told])
            ups = {latch: swell for latch, way, swell in there + back if way == "up"}
            downs = {latch: swell for latch, way, swell in there + back if way == "down"}
            self.assertEqual([(latch, ups[latch], downs[latch]) for latch in sorted(ups)], told)
            self.assertTrue(all(up - down >= 1 for _, up, down in told))
            self.assertEqual(sum(up - down for _, up, down in told), loss(house, stand, start, far))
            self.assertEqual(work([there, back]), loss(house, stand, start, far))
            moving += len(told) > 1
        self.assertGreater(moving, 20)

    def test_branches_and_area(self):
        for house, stand, start, far in closed_swings(some_houses(20)):
            end = leg(house, stand, start, far)
            low, high = sorted((start, far))
            low_stand, high_stand = (stand, end) if start <= far else (end, stand)
            told = branches(house, stand, start, far)
            self.assertEqual([(swell, len(leg(house, low_stand, low, swell)), len(leg(house, high_stand, high, swell)))
                              for swell in range(low, high + 1)], told)
            self.assertTrue(all(sinking >= rising for _, rising, sinking in told))
            for swell, rising, sinking in (told[0], told[-1]):
                self.assertEqual(rising, sinking)
            self.assertEqual(sum(sinking - rising for _, rising, sinking in told), area(house, stand, start, far))
            turning = len(latch_turns(house, stand, start, far))
            self.assertEqual(loss(house, stand, start, far) - turning, area(house, stand, start, far))

    def test_a_thousand_apart(self):
        house = House(((600, 300),))
        told = branches(house, (), 0, 1000)
        self.assertEqual(1001, len(told))
        self.assertEqual([(300, 0, 0), (301, 0, 1)], told[300:302])
        self.assertEqual([(599, 0, 1), (600, 1, 1)], told[599:601])
        self.assertEqual(1001, len(branches(house, (0,), 1000, 0)))
        self.refused(TooMany, {"limit": 1000}, lambda: branches(house, (), 0, 1001))
        self.refused(TooMany, {"limit": 1000}, lambda: branches(house, (0,), 1001, 0))
        self.refused(TooMany, {"limit": 1000}, lambda: branches(house, (), -BIG, BIG))
        self.assertEqual(299, area(house, (), 0, 1001))
        far_house = House(((BIG, -BIG),))
        self.assertEqual(2 * BIG - 1, area(far_house, (), -BIG, BIG))
        self.assertEqual([(0, BIG, -BIG)], latch_turns(far_house, (), -BIG, BIG))

    def test_a_farther_swing_loses_no_less(self):
        compared = 0
        for house in some_houses(40):
            for stand, start in [(stand, start) for start in (-8, 0) for stand in slow_settled(house, start)]:
                for sign in (1, -1):
                    ahead = []
                    for far in range(1, 25):
                        if not bears(house, stand, start, start + sign * far):
                            break
                        told = latch_turns(house, stand, start, start + sign * far)
                        widths = {latch: up - down for latch, up, down in told}
                        for latch, up, down in ahead:
                            self.assertLessEqual(up - down, widths[latch])
                            compared += 1
                        ahead = told
        self.assertGreater(compared, 100)

    def test_refused(self):
        judged = [lambda house, stand, start, far: swing_holds(house, stand, start, far, None)]
        for asked in (*ASKED, *judged):
            for thing in (*STRANGE, (2,), (-1,), (1, 0)):
                if not (isinstance(thing, tuple) and thing == ()):
                    self.refused(NoStand, {"stand": thing}, lambda: asked(HOUSE, thing, None, None))
            for thing in STRANGE:
                self.refused(NoSwell, {"swell": thing}, lambda: asked(HOUSE, (0,), thing, None))
                self.refused(NoSwell, {"swell": thing}, lambda: asked(HOUSE, (0,), 9, thing))
            self.refused(Unsettled, {"latch": 1, "swell": 9}, lambda: asked(HOUSE, (0,), 9, 5000))
            self.refused(Unsettled, {"latch": 0, "swell": 1}, lambda: asked(HOUSE, (0, 1), 1, 3))

    def test_not_closed(self):
        for asked in ASKED:
            self.refused(NotClosed, {"near": 3, "far": 5}, lambda: asked(HOUSE, (0,), 3, 5))
            self.refused(NotClosed, {"near": 2, "far": 0}, lambda: asked(HOUSE, (0,), 2, 0))
            self.refused(NotClosed, {"near": 2, "far": 9000}, lambda: asked(HOUSE, (), 2, 9000))
        closed = 0
        for house, stand, start in starts_of(some_houses(15)):
            for far in (start - 9, start + 3, start + 12):
                if bears(house, stand, start, far):
                    closed += 1
                    continue
                for asked in ASKED:
                    self.refused(NotClosed, {"near": start, "far": far}, lambda: asked(house, stand, start, far))
        self.assertGreater(closed, 10)


class JudgeTest(unittest.TestCase):
    def test_told_papers_hold(self):
        for house, stand, start, far in closed_swings(some_houses(25)):
            paper = swing_paper(house, stand, start, far)
            self.assertIs(True, swing_holds(house, stand, start, far, paper))
            self.assertEqual(loss(house, stand, start, far), paper[3])

    def test_falls_are_those_of_the_legs(self):
        for house, stand, start, far in closed_swings(some_houses(12)):
            _, there, back, _ = swing_paper(house, stand, start, far)
            end = leg(house, stand, start, far)
            for papers, ahead, one, two in ((there, stand, start, far), (back, end, far, start)):
                found = [(swell, tuple(sorted(latch for row in told for latch in row)))
                         for _, _, _, swell, told in papers]
                self.assertEqual(slow_falls(house, ahead, one, two)[0], found)
                for _, way, _, _, told in papers:
                    self.assertEqual(("up" if two >= one else "down", list), (way, told.__class__))

    def test_changed_papers_do_not_hold(self):
        for house, stand, start, far in closed_swings(some_houses(25)):
            word, there, back, lost = swing_paper(house, stand, start, far)
            wrong = [(word, there, back, lost + 1), (word, there, back, lost - 1), (word, there, back, str(lost)),
                     ("swings", there, back, lost), (word, tuple(there), back, lost), (word, there, tuple(back), lost),
                     (word, there, back), (word, there, back, lost, 0), [word, there, back, lost],
                     (word, there + there[-1:] if there else [None], back, lost)]
            if there:
                wrong.extend([(word, there[1:], back, lost), (word, there[:-1], back, lost),
                              (word, there, back[1:], lost), (word, there, back[:-1], lost), (word, [], [], 0),
                              (word, back, there, lost), (word, [list(there[0])] + there[1:], back, lost),
                              (word, [(*there[0][:3], there[0][3] + 1, there[0][4])] + there[1:], back, lost),
                              (word, [(*there[0][:4], there[0][4] * 2)] + there[1:], back, lost)])
            if len(there) > 1:
                wrong.append((word, there[::-1], back, lost))
                wrong.append((word, there[:1] + there, back, lost))
            for paper in wrong:
                self.assertIs(False, swing_holds(house, stand, start, far, paper), paper)

    def test_of_another_swing(self):
        paper = swing_paper(HOUSE, (), 0, 9)
        self.assertIs(True, swing_holds(HOUSE, (), 0, 9, paper))
        self.assertIs(True, swing_holds(HOUSE, (), 1, 4, paper))
        self.assertIs(False, swing_holds(HOUSE, (), 2, 9, paper))
        self.assertIs(False, swing_holds(HOUSE, (), 0, 3, paper))
        self.assertIs(False, swing_holds(HOUSE, (0,), 3, 9, paper))
        self.assertIs(False, swing_holds(HOUSE, (0, 1), 9, 0, paper))
        self.assertIs(True, swing_holds(HOUSE, (0, 1), 9, 0, ("swing", paper[2], paper[1], 5)))
        # a leg's falls are all of them: this one goes farther than told
        self.assertIs(False, swing_holds(HOUSE, (), 0, 9, ("swing", paper[1][:1], paper[2], 5)))
        self.assertIs(False, swing_holds(HOUSE, (), 0, 9, ("swing", paper[1][:1],
                                                           [("fall", "down", (0,), 1, [(0,)])], 2)))
        self.assertIs(True, swing_holds(HOUSE, (), 0, 3, ("swing", paper[1][:1],
                                                          [("fall", "down", (0,), 1, [(0,)])], 2)))
        # a fall at the start itself is none of the leg
        self.assertIs(False, swing_holds(HOUSE, (0,), 3, 2, ("swing", paper[1][:1], [], 3)))

    def test_falls_of_another_stand(self):
        # latch 0 goes alike whether latch 1 is up or down
        house = House(((3, 1), (100, -100)))
        there, back = [("fall", "up", (), 3, [(0,)])], [("fall", "down", (0,), 1, [(0,)])]
        other_there, other_back = [("fall", "up", (1,), 3, [(0,)])], [("fall", "down", (0, 1), 1, [(0,)])]
        for stand, one, other in (((), there, back), ((1,), other_there, other_back)):
            self.assertIs(True, swing_holds(house, stand, 0, 5, ("swing", one, other, 2)))
        for one, other in ((there, other_back), (other_there, back), (other_there, other_back)):
            self.assertIs(False, swing_holds(house, (), 0, 5, ("swing", one, other, 2)))

    def test_of_a_swing_that_is_not_closed(self):
        there = [("fall", "up", (0,), 4, [(1,)])]
        back = [("fall", "down", (0, 1), 1, [(0, 1)])]
        for paper in (("swing", there, [], 4), ("swing", there, back, 2), ("swing", [], [], 0), None):
            self.assertIs(False, swing_holds(HOUSE, (0,), 3, 5, paper))
            self.assertIs(False, swing_holds(HOUSE, (0,), 2, 0, paper))

    def test_of_anything(self):
        there, back = swing_paper(HOUSE, (), 0, 9)[1:3]
        for thing in STRANGE:
            self.assertIs(False, swing_holds(HOUSE, (), 0, 9, thing))
            self.assertIs(False, swing_holds(HOUSE, (), 0, 9, ("swing", thing, back, 5)))
            self.assertIs(False, swing_holds(HOUSE, (), 0, 9, ("swing", there, thing, 5)))
            self.assertIs(False, swing_holds(HOUSE, (), 0, 9, ("swing", there, back, thing)))
            self.assertIs(False, swing_holds(HOUSE, (), 0, 9, ("swing", [thing], back, 5)))
            self.assertIs(False, swing_holds(HOUSE, (), 0, 9, ("swing", there + [thing], back, 5)))
            for place in range(5):
                fall = (*there[0][:place], thing, *there[0][place + 1:])
                self.assertIs(False, swing_holds(HOUSE, (), 0, 9, ("swing", [fall, there[1]], back, 5)))
        for word in NO_WORDS:
            self.assertIs(False, swing_holds(HOUSE, (), 0, 9, (word, there, back, 5)))
        self.assertIs(False, swing_holds(HOUSE, (), 0, 0, ("swing", [], [], False)))

    def test_great_houses(self):
        for seed in (1, 2):
            house = some_house(seed, 14, 60)
            paper = swing_paper(house, (), -BIG, BIG)
            self.assertEqual(14, len(latch_turns(house, (), -BIG, BIG)))
            self.assertIs(True, swing_holds(house, (), -BIG, BIG, paper))


if __name__ == "__main__":
    unittest.main()
