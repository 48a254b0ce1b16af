"""Promises [21] to [24] and [28]: falls, rounds, branches, goings, their papers, floor and roof."""

import unittest

from swaykeep.errors import NoFall, NoLatch, NoStand, NoSwell, Unsettled
from swaykeep.falls import (branch, fall_paper, falls, floor, going, going_paper, next_move, roof, rounds)
from swaykeep.houses import House
from swaykeep.judge_falls import fall_holds, going_holds
from swaykeep.legs import led, leg
from swaykeep.turning import moved
from tests.samples import (BIG, NO_WORDS, STRANGE, Refusals, all_of, all_stands, slow_falls, slow_settled, slow_wants,
                           some_history, some_house, some_houses)

CHAIN = House(((2, 0), (5, 3), (8, 1)), ((0, 1, 3), (1, 2, 5)))
NO_STANDS = (*STRANGE, (3,), (-1,), (0, 0), (1, 0), [0, 1], 0)
STARTS = range(-14, 10, 4)
REACH = 120


def settled_starts(houses):
    return [(house, swell, stand) for house in houses for swell in STARTS for stand in slow_settled(house, swell)]


class FallsTest(Refusals, unittest.TestCase):
    def test_falls_of_legs(self):
        self.assertEqual([(2, (0, 1)), (3, (2,))], falls(CHAIN, (), 0, 9))
        self.assertEqual([(2, (0, 1))], falls(CHAIN, (), 0, 2))
        self.assertEqual([], falls(CHAIN, (), 0, 1))
        self.assertEqual([], falls(CHAIN, (), 0, 0))
        self.assertEqual([(0, (0, 1, 2))], falls(CHAIN, (0, 1, 2), 9, 0))
        self.assertEqual([], falls(CHAIN, (0, 1, 2), 9, 1))

    def test_led_by_steps(self):
        for house, swell, stand in settled_starts(some_houses(12)):
            for end in (swell - 17, swell - 3, swell, swell + 2, swell + 15):
                told = falls(house, stand, swell, end)
                self.assertEqual(slow_falls(house, stand, swell, end)[0], told)
                went = sorted(latch for _, latches in told for latch in latches)
                self.assertEqual(sorted(set(stand) ^ set(leg(house, stand, swell, end))), went)

    def test_far_swells_at_once(self):
        house = moved(House(CHAIN.latches() + ((5 * BIG, -5 * BIG),), CHAIN.helps()), BIG)
        told = falls(house, (), -9 * BIG, 9 * BIG)
        self.assertEqual([(BIG + 2, (0, 1)), (BIG + 3, (2,)), (6 * BIG, (3,))], told)
        self.assertEqual([(BIG, (0, 1, 2)), (-4 * BIG, (3,))], falls(house, (0, 1, 2, 3), 9 * BIG, -9 * BIG))

    def test_kinds(self):
        told = falls(CHAIN, (), 0, 9)
        self.assertEqual([list, tuple, tuple], [type(told), type(told[0]), type(told[0][1])])
        told.append("x")
        self.assertEqual(2, len(falls(CHAIN, (), 0, 9)))

    def test_refusals_in_their_order(self):
        for thing in NO_STANDS:
            self.refused(NoStand, {"stand": thing}, lambda: falls(CHAIN, thing, None, None))
        for thing in STRANGE:
            self.refused(NoSwell, {"swell": thing}, lambda: falls(CHAIN, (), thing, "x"))
            self.refused(NoSwell, {"swell": thing}, lambda: falls(CHAIN, (), 99, thing))
        self.refused(Unsettled, {"latch": 0, "swell": 99}, lambda: falls(CHAIN, (), 99, 0))


class RoundsTest(Refusals, unittest.TestCase):
    def test_rounds(self):
        self.assertEqual([(0,), (1,)], rounds(CHAIN, (), 2))
        self.assertEqual([(0,), (1,), (2,)], rounds(CHAIN, (), 3, up=True))
        self.assertEqual([(0, 1), (2,)], rounds(CHAIN, (0, 1, 2), 0, up=False))
        self.assertEqual([], rounds(CHAIN, (), 1))
        self.assertEqual([], rounds(CHAIN, (), 99, up=False))
        self.assertEqual([], rounds(CHAIN, (0, 1, 2), -99))

    def test_of_any_stand_and_swell(self):
        for house in some_houses(15):
            for stand in all_stands(house):
                for swell in range(-20, 14, 3):
                    for up in (True, False):
                        now = stand
                        for latches in rounds(house, stand, swell, up=up):
                            self.assertEqual(tuple(slow_wants(house, now, swell)[0 if up else 1]), latches)
                            self.assertTrue(latches)
                            now = tuple(sorted(set(now) ^ set(latches)))
                        self.assertEqual([], slow_wants(house, now, swell)[0 if up else 1])

    def test_up_is_handed_by_name(self):
        for ask in (rounds, next_move, branch, fall_paper):
            with self.assertRaises(TypeError):
                ask(CHAIN, (), 2, True)

    def test_refusals_in_their_order(self):
        for thing in NO_STANDS:
            self.refused(NoStand, {"stand": thing}, lambda: rounds(CHAIN, thing, None))
        for thing in STRANGE:
            self.refused(NoSwell, {"swell": thing}, lambda: rounds(CHAIN, (), thing))


class FallPaperTest(Refusals, unittest.TestCase):
    def test_told_papers(self):
        self.assertEqual(("fall", "up", (), 2, [(0,), (1,)]), fall_paper(CHAIN, (), 2))
        self.assertEqual(("fall", "down", (0, 1, 2), 0, [(0, 1), (2,)]), fall_paper(CHAIN, (0, 1, 2), 0, up=False))
        fall_paper(CHAIN, (), 2)[4].append("x")
        self.assertEqual([(0,), (1,)], fall_paper(CHAIN, (), 2)[4])

    def test_told_just_where_there_is_a_fall_and_holds(self):
        for house, swell, stand in settled_starts(some_houses(12)):
            for up, step in ((True, 1), (False, -1)):
                told = slow_falls(house, stand, swell, swell + step)[0]
                if told:
                    paper = fall_paper(house, stand, swell + step, up=up)
                    self.assertEqual(("fall", "up" if up else "down", stand, swell + step), paper[:4])
                    self.assertEqual(list(told[0][1]), sorted(latch for latches in paper[4] for latch in latches))
                    self.assertIs(True, fall_holds(house, paper))
                else:
                    self.refused(NoFall, {"swell": swell + step}, lambda: fall_paper(house, stand, swell + step, up=up))

    def test_refusals_in_their_order(self):
        for thing in NO_STANDS:
            self.refused(NoStand, {"stand": thing}, lambda: fall_paper(CHAIN, thing, None))
        for thing in STRANGE:
            self.refused(NoSwell, {"swell": thing}, lambda: fall_paper(CHAIN, (), thing))
        self.refused(Unsettled, {"latch": 0, "swell": 2}, lambda: fall_paper(CHAIN, (), 3))
        self.refused(Unsettled, {"latch": 0, "swell": 0}, lambda: fall_paper(CHAIN, (0, 1, 2), -1, up=False))
        self.refused(Unsettled, {"latch": 0, "swell": 3}, lambda: fall_paper(CHAIN, (), 2, up=False))
        self.refused(NoFall, {"swell": 1}, lambda: fall_paper(CHAIN, (), 1))
        self.refused(NoFall, {"swell": -4}, lambda: fall_paper(CHAIN, (), -4, up=False))

    def test_papers_of_anything(self):
        held = ("fall", "up", (), 2, [(0,), (1,)])
        self.assertIs(True, fall_holds(CHAIN, held))
        wrong = (
            list(held), held[:4], held + ((),), ("Fall", *held[1:]), (b"fall", *held[1:]), (None, *held[1:]),
            ("fall", "down", *held[2:]), ("fall", "UP", *held[2:]), ("fall", True, *held[2:]),
            ("fall", None, *held[2:]),
            ("fall", "up", [], 2, [(0,), (1,)]), ("fall", "up", (0,), 2, [(0,), (1,)]),
            ("fall", "up", (9,), 2, [(0,), (1,)]),
            ("fall", "up", (True,), 2, [(0,), (1,)]), ("fall", "up", None, 2, [(0,), (1,)]),
            ("fall", "up", (), 3, [(0,), (1,), (2,)]), ("fall", "up", (), 2.0, [(0,), (1,)]),
            ("fall", "up", (), None, [(0,), (1,)]), ("fall", "up", (), 1, []), ("fall", "up", (), 1, [()]),
            ("fall", "up", (), 2, []), ("fall", "up", (), 2, [(0,)]), ("fall", "up", (), 2, [(0, 1)]),
            ("fall", "up", (), 2, [(0,), (1,), ()]), ("fall", "up", (), 2, [(1,), (0,)]),
            ("fall", "up", (), 2, ((0,), (1,))),
            ("fall", "up", (), 2, [[0], [1]]), ("fall", "up", (), 2, [(False,), (1,)]),
            ("fall", "up", (), 2, [(0,), (True,)]),
            ("fall", "up", (), 2, [(0,), (1.0,)]), ("fall", "up", (), 2, [(0,), (9,)]), ("fall", "up", (), 2, None),
            ("fall", "up", (), 2, [0, 1]), ("fall", "up", (), 2, "01"), ("fall", "up", (), True, [(0,), (1,)]), ())
        words = [(word, *held[1:]) for word in NO_WORDS] + [("fall", word, *held[2:]) for word in NO_WORDS]
        for paper in (*wrong, *words, *STRANGE):
            self.assertIs(False, fall_holds(CHAIN, paper))
        for thing in STRANGE:
            for at in range(5):
                self.assertIs(False, fall_holds(CHAIN, (*held[:at], thing, *held[at + 1:])))
            self.assertIs(False, fall_holds(CHAIN, (*held[:4], [(0,), thing])))

    def test_a_fall_at_one_is_none_at_true(self):
        house = House(((1, 0),))
        self.assertIs(True, fall_holds(house, ("fall", "up", (), 1, [(0,)])))
        self.assertIs(False, fall_holds(house, ("fall", "up", (), True, [(0,)])))

    def test_down_papers(self):
        held = ("fall", "down", (0, 1, 2), 0, [(0, 1), (2,)])
        self.assertIs(True, fall_holds(CHAIN, held))
        for way in (*NO_WORDS, "", "DOWN", "up"):
            self.assertIs(False, fall_holds(CHAIN, ("fall", way, *held[2:])))
        for paper in (("fall", "up", *held[2:]), ("fall", "down", (0, 1, 2), -1, [(0, 1), (2,)]),
                      ("fall", "down", (0, 1, 2), 0, [(0,), (1,), (2,)]), ("fall", "down", (0, 1, 2), 1, [])):
            self.assertIs(False, fall_holds(CHAIN, paper))


class BranchTest(Refusals, unittest.TestCase):
    def test_next_move(self):
        self.assertEqual((2, (0, 1)), next_move(CHAIN, (), 0))
        self.assertEqual((2, (0, 1)), next_move(CHAIN, (), -BIG))
        self.assertEqual((0, (0, 1, 2)), next_move(CHAIN, (0, 1, 2), BIG, up=False))
        self.assertIsNone(next_move(CHAIN, (), 0, up=False))
        self.assertIsNone(next_move(CHAIN, (0, 1, 2), 9))
        self.assertIs(tuple, type(next_move(CHAIN, (), 0)))

    def test_branch_is_all_falls_of_a_leg_led_on_and_on(self):
        self.assertEqual([(2, (0, 1)), (3, (2,))], branch(CHAIN, (), -BIG))
        self.assertEqual([], branch(CHAIN, (), 0, up=False))
        self.assertEqual([], branch(CHAIN, (0, 1, 2), 9, up=True))
        for house, swell, stand in settled_starts(some_houses(10)):
            for up, end in ((True, swell + REACH), (False, swell - REACH)):
                told, last = slow_falls(house, stand, swell, end)
                self.assertEqual(all_of(house) if up else (), last)
                self.assertEqual(told, branch(house, stand, swell, up=up))
                self.assertEqual(told[0] if told else None, next_move(house, stand, swell, up=up))

    def test_falls_are_those_of_the_branch_up_to_the_end(self):
        house = some_house(6, 14, 50)
        told = branch(house, (), -10 * BIG + 1)
        for end, _ in told:
            self.assertEqual([fall for fall in told if fall[0] <= end], falls(house, (), -BIG, end))
            self.assertEqual([fall for fall in told if fall[0] < end], falls(house, (), -BIG, end - 1))

    def test_the_list_is_new(self):
        branch(CHAIN, (), 0).clear()
        self.assertEqual(2, len(branch(CHAIN, (), 0)))
        self.assertIs(list, type(branch(CHAIN, (), 0)))

    def test_refusals_in_their_order(self):
        for ask in (next_move, branch):
            for thing in NO_STANDS:
                self.refused(NoStand, {"stand": thing}, lambda: ask(CHAIN, thing, None))
            for thing in STRANGE:
                self.refused(NoSwell, {"swell": thing}, lambda: ask(CHAIN, (), thing))
            self.refused(Unsettled, {"latch": 0, "swell": 2}, lambda: ask(CHAIN, (), 2))
            self.refused(Unsettled, {"latch": 0, "swell": 2}, lambda: ask(CHAIN, (), 2, up=False))


class GoingTest(Refusals, unittest.TestCase):
    def test_going(self):
        self.assertEqual([2, 2, 3], [going(CHAIN, (), -BIG, latch) for latch in range(3)])
        self.assertEqual([0, 0, 0], [going(CHAIN, (0, 1, 2), BIG, latch) for latch in range(3)])
        # what is down goes up, what is up goes down
        self.assertEqual([0, 0, 3], [going(CHAIN, (0, 1), 2, latch) for latch in range(3)])

    def test_going_is_the_swell_of_its_fall(self):
        for house, swell, stand in settled_starts(some_houses(10)):
            for latch in range(len(house)):
                up = latch not in stand
                told = slow_falls(house, stand, swell, swell + REACH if up else swell - REACH)[0]
                swells = [at for at, latches in told if latch in latches]
                self.assertEqual(swells, [going(house, stand, swell, latch)])

    def test_papers(self):
        self.assertEqual(("goes", 2, [(2, (0, 1))], ("fall", "up", (0, 1), 3, [(2,)])), going_paper(CHAIN, (), 0, 2))
        self.assertEqual(("goes", 1, [], ("fall", "up", (), 2, [(0,), (1,)])), going_paper(CHAIN, (), 0, 1))
        self.assertEqual(("goes", 2, [], ("fall", "down", (0, 1, 2), 0, [(0, 1), (2,)])),
                         going_paper(CHAIN, (0, 1, 2), 9, 2))
        going_paper(CHAIN, (), 0, 2)[2].append("x")
        self.assertEqual([(2, (0, 1))], going_paper(CHAIN, (), 0, 2)[2])

    def test_told_papers_hold(self):
        for house, swell, stand in settled_starts(some_houses(10)):
            papers = [going_paper(house, stand, swell, latch) for latch in range(len(house))]
            for latch, paper in enumerate(papers):
                up = latch not in stand
                told = branch(house, stand, swell, up=up)
                self.assertEqual([fall for fall in told if fall[0] != paper[3][3]][:len(paper[2])], paper[2])
                self.assertEqual(going(house, stand, swell, latch), paper[3][3])
                self.assertIs(True, going_holds(house, stand, swell, paper))
                for other in all_stands(house):
                    if other != stand and paper[2] == []:
                        self.assertIs(False, going_holds(house, other, swell, paper))

    def test_papers_of_anything(self):
        held = ("goes", 2, [(2, (0, 1))], ("fall", "up", (0, 1), 3, [(2,)]))
        self.assertIs(True, going_holds(CHAIN, (), 0, held))
        last = held[3]
        wrong = (
            list(held), held[:3], held + ((),), ("Goes", *held[1:]), (b"goes", *held[1:]), (0, *held[1:]),
            ("goes", 1, *held[2:]), ("goes", 0, *held[2:]), ("goes", 3, *held[2:]), ("goes", -1, *held[2:]),
            ("goes", 2.0, *held[2:]), ("goes", None, *held[2:]), ("goes", (2,), *held[2:]), ("goes", 2, [], last),
            ("goes", 2, ((2, (0, 1)),), last), ("goes", 2, [[2, (0, 1)]], last), ("goes", 2, [(2, [0, 1])], last),
            ("goes", 2, [(2, (0,)), (2, (1,))], last), ("goes", 2, [(1, (0, 1))], last), ("goes", 2, [(2, (0,))], last),
            ("goes", 2, [(2, (1, 0))], last), ("goes", 2, [(2, (0, 1)), (2, ())], last),
            ("goes", 2, [(2.0, (0, 1))], last),
            ("goes", 2, [(2, (False, 1))], last), ("goes", 2, [(2, (0, True))], last),
            ("goes", 2, [(2, (0, 1), 0)], last),
            ("goes", 2, [(2, (0, 1)), (3, (2,))], last), ("goes", 2, [None], last), ("goes", 2, None, last),
            ("goes", 2, "", last), ("goes", 2, [(2, (0, 1))], None), ("goes", 2, [(2, (0, 1))], list(last)),
            ("goes", 2, [(2, (0, 1))], ("fall", "up", (0, 1), 4, [(2,)])),
            ("goes", 2, [(2, (0, 1))], ("fall", "up", (), 2, [(0,), (1,)])),
            ("goes", 2, [], ("fall", "up", (0, 1), 3, [(2,)])), ("goes", 2, [], ("fall", "up", (), 2, [(0,), (1,)])),
            ("goes", 1, [(2, (0, 1))], ("fall", "up", (), 2, [(0,), (1,)])), ())
        for paper in (*wrong, *STRANGE):
            self.assertIs(False, going_holds(CHAIN, (), 0, paper))
        for thing in (*NO_WORDS, *STRANGE):
            for at in (0, 2, 3):
                self.assertIs(False, going_holds(CHAIN, (), 0, (*held[:at], thing, *held[at + 1:])))
            self.assertIs(False, going_holds(CHAIN, (), 0, ("goes", thing, *held[2:])))
            self.assertIs(False, going_holds(CHAIN, (), 0, ("goes", 2, [thing], last)))
            self.assertIs(False, going_holds(CHAIN, (), 0, ("goes", 2, [(2, thing)], last)))
            self.assertIs(False, going_holds(CHAIN, (), 0, ("goes", 2, [(thing, (0, 1))], last)))

    def test_the_way_of_the_latch_itself(self):
        paper = ("goes", 0, [], ("fall", "down", (0, 1), 0, [(0, 1)]))
        self.assertIs(True, going_holds(CHAIN, (0, 1), 2, paper))
        self.assertIs(False, going_holds(CHAIN, (0, 1), 2, ("goes", 2, [], paper[3])))
        self.assertIs(False, going_holds(CHAIN, (0, 1), 2, ("goes", 0, [], ("fall", "up", (0, 1), 3, [(2,)]))))

    def test_not_by_a_fall_ahead_and_back_again(self):
        back = ("goes", 0, [(2, (0, 1))], ("fall", "down", (0, 1), 0, [(0, 1)]))
        self.assertIs(True, fall_holds(CHAIN, back[3]))
        self.assertIs(False, going_holds(CHAIN, (), 0, back))
        self.assertIs(False, going_holds(CHAIN, (0, 1), 2,
                                         ("goes", 0, [(0, (0, 1))], ("fall", "up", (), 2, [(0,), (1,)]))))

    def test_false_where_the_stand_is_not_settled(self):
        paper = going_paper(CHAIN, (), 0, 1)
        self.assertEqual([True, True, False], [going_holds(CHAIN, (), swell, paper) for swell in (-BIG, 1, 2)])

    def test_refusals_in_their_order(self):
        for ask in (going, going_paper):
            for thing in NO_STANDS:
                self.refused(NoStand, {"stand": thing}, lambda: ask(CHAIN, thing, None, None))
            for thing in (*STRANGE, -1, 3, BIG):
                self.refused(NoLatch, {"latch": thing}, lambda: ask(CHAIN, (), None, thing))
            for thing in STRANGE:
                self.refused(NoSwell, {"swell": thing}, lambda: ask(CHAIN, (), thing, 0))
            self.refused(Unsettled, {"latch": 0, "swell": 2}, lambda: ask(CHAIN, (), 2, 1))
        for thing in NO_STANDS:
            self.refused(NoStand, {"stand": thing}, lambda: going_holds(CHAIN, thing, None, None))
        for thing in STRANGE:
            self.refused(NoSwell, {"swell": thing}, lambda: going_holds(CHAIN, (), thing, None))


class FloorTest(unittest.TestCase):
    def test_floor_and_roof(self):
        self.assertEqual((1, 3), (floor(House(((3, 1),))), roof(House(((3, 1),)))))
        self.assertEqual((0, 3), (floor(CHAIN), roof(CHAIN)))
        self.assertEqual((BIG, BIG + 3), (floor(moved(CHAIN, BIG)), roof(moved(CHAIN, BIG))))

    def test_by_steps(self):
        for house in (*some_houses(40), some_house(1, 14, 90)):
            low, high = floor(house), roof(house)
            everything = all_of(house)
            self.assertEqual((), leg(house, everything, 200, low))
            self.assertNotEqual((), leg(house, everything, 200, low + 1))
            self.assertEqual(everything, leg(house, (), -400, high))
            self.assertNotEqual(everything, leg(house, (), -400, high - 1))
            self.assertLess(low, high)

    def test_at_or_beyond_floor_and_roof_one_stand_alone_is_settled(self):
        for house in some_houses(25):
            for farther in (0, 1, 7):
                self.assertEqual([()], slow_settled(house, floor(house) - farther))
                self.assertEqual([all_of(house)], slow_settled(house, roof(house) + farther))

    def test_beyond_is_as_if_it_stopped_there(self):
        for seed, house in enumerate(some_houses(40)):
            low, high = floor(house), roof(house)
            history = [low, *some_history(seed, 30, low - 9, high + 9)]
            stopped = [min(max(swell, low), high) for swell in history]
            self.assertEqual(led(house, (), stopped), led(house, (), history))


if __name__ == "__main__":
    unittest.main()
