"""Promises [38] to [47]: Keepers, their deeds, marks, mends and twins."""

import unittest

from swaykeep.errors import NoHistory, NoMark, NoMend, NoStand, NoSwell, Unsettled
from swaykeep.houses import House
from swaykeep.keepers import Keeper
from swaykeep.legs import helped_no_less, led
from swaykeep.residues import residue
from swaykeep.turning import moved
from tests.samples import (BIG, STRANGE, Numbers, Refusals, slow_leg, slow_settled, some_history, some_house,
                           some_houses)

HOUSE = House(((3, 1), (5, 2)), ((0, 1, 1),))
HELPED = House(((3, 1), (5, 2)), ((0, 1, 2),))
NO_NAMES = (*STRANGE, "", "abcdefghi", "A", "aB", "a b", "a1", "1", "a_", "ä", "a\n", " a", "ß", "µ")


def told_of(keeper):
    """All that a Keeper tells, marks aside."""
    return (keeper.house_now(), keeper.stand_now(), keeper.swell_now(), keeper.base(), keeper.residue())


class Slow:
    """A Keeper that keeps each swell since its base, and goes each leg one by one."""

    def __init__(self, house, swell, stand=()):
        self.house, self.stand, self.history, self.base = house, stand, [swell], (stand, swell)

    def to(self, swell):
        ahead = self.stand
        self.stand = slow_leg(self.house, ahead, self.history[-1], swell)
        self.history = self.history + [swell]
        return tuple(sorted(set(ahead) ^ set(self.stand)))

    def through(self, history, times=1):
        for swell in list(history) * times:
            self.to(swell)
        return self.stand

    def forget(self):
        self.base, self.history = (self.stand, self.history[-1]), self.history[-1:]

    def mend(self, house, up):
        ahead, at = self.stand, self.history[-1]
        self.house, self.stand = house, slow_leg(house, ahead, at if up else at + 1, at)
        self.forget()
        return tuple(sorted(set(ahead) ^ set(self.stand)))

    def told(self):
        return self.house, self.stand, self.history[-1], self.base, residue(self.history)


class KeeperTest(Refusals, unittest.TestCase):
    def test_begins_with_its_base(self):
        keeper = Keeper(HOUSE, 2)
        self.assertEqual((HOUSE, (), 2, ((), 2), [2]), told_of(keeper))
        keeper = Keeper(HOUSE, 2, stand=(0,))
        self.assertEqual((HOUSE, (0,), 2, ((0,), 2), [2]), told_of(keeper))
        self.assertEqual([], keeper.marks())
        self.assertEqual(0, len(keeper))
        self.assertIs(False, keeper.undo())
        self.assertEqual("Keeper(1, 2)", repr(keeper))
        self.assertEqual("Keeper(0, -4)", repr(Keeper(HOUSE, -4)))
        self.assertRaises(TypeError, Keeper, HOUSE, 2, ())

    def test_refused_when_it_is_made(self):
        for thing in (*STRANGE, (2,), (-1,), (1, 0), [0]):
            if not (isinstance(thing, tuple) and thing == ()):
                self.refused(NoStand, {"stand": thing}, lambda: Keeper(HOUSE, None, stand=thing))
        for thing in STRANGE:
            self.refused(NoSwell, {"swell": thing}, lambda: Keeper(HOUSE, thing))
        self.refused(Unsettled, {"latch": 0, "swell": 9}, lambda: Keeper(HOUSE, 9))
        self.refused(Unsettled, {"latch": 1, "swell": 5}, lambda: Keeper(HOUSE, 5, stand=(0,)))
        self.refused(Unsettled, {"latch": 0, "swell": 1}, lambda: Keeper(HOUSE, 1, stand=(0, 1)))

    def test_to(self):
        keeper = Keeper(HOUSE, 0)
        self.assertEqual((0,), keeper.to(3))
        self.assertEqual((), keeper.to(2))
        self.assertEqual((1,), keeper.to(4))
        self.assertEqual((HOUSE, (0, 1), 4, ((), 0), [0, 4]), told_of(keeper))
        self.assertEqual((), keeper.to(4))
        self.assertEqual((0, 1), keeper.to(-BIG))
        self.assertEqual((HOUSE, (), -BIG, ((), 0), [0, 4, -BIG]), told_of(keeper))
        ahead = told_of(keeper)
        for thing in STRANGE:
            self.refused(NoSwell, {"swell": thing}, lambda: keeper.to(thing))
        self.assertEqual((ahead, 5), (told_of(keeper), len(keeper)))

    def test_through(self):
        keeper = Keeper(HOUSE, 0)
        self.assertEqual((0,), keeper.through([3, 2]))
        self.assertEqual((), keeper.through((5, 1)))
        self.assertEqual([0, 5, 1], keeper.residue())
        self.assertEqual((), keeper.through([]))
        self.assertEqual((), keeper.through([9], times=0))
        self.assertEqual((0, 1), keeper.through([1, 4], times=10 ** 29))
        self.assertEqual((HOUSE, (0, 1), 4, ((), 0), [0, 5, 1, 4]), told_of(keeper))
        self.assertEqual(5, len(keeper))
        self.assertRaises(TypeError, keeper.through, [1], 2)

    def test_refused_through(self):
        keeper = Keeper(HOUSE, 0)
        ahead = told_of(keeper)
        for thing in STRANGE:
            for times in (0, 1, 10 ** 29):
                self.refused(NoHistory, {"place": 1}, lambda: keeper.through([4, thing, None], times=times))
        self.refused(NoHistory, {"place": 0}, lambda: keeper.through([True]))
        self.assertEqual((ahead, 0), (told_of(keeper), len(keeper)))

    def test_beside_one_that_goes_each_leg(self):
        for seed in range(120):
            numbers = Numbers(seed)
            house = some_house(seed)
            start = numbers.between(-20, 12)
            stands = slow_settled(house, start)
            stand = stands[numbers.below(len(stands))]
            keeper, slow = Keeper(house, start, stand=stand), Slow(house, start, stand)
            for deed in range(14):
                drawn = numbers.below(6)
                if drawn < 3:
                    swell = numbers.between(-22, 14)
                    self.assertEqual(slow.to(swell), keeper.to(swell))
                elif drawn == 3:
                    history = some_history(seed * 20 + deed, numbers.below(5))
                    times = numbers.below(4)
                    self.assertEqual(slow.through(history, times), keeper.through(history, times=times))
                elif drawn == 4:
                    slow.forget()
                    keeper.forget()
                else:
                    up = numbers.below(2) == 1
                    new = moved(house, -numbers.below(4) if up else numbers.below(4))
                    self.assertEqual(slow.mend(new, up), keeper.mend(new))
                    house = new
                self.assertEqual(slow.told(), told_of(keeper))
                again = Keeper(house, keeper.base()[1], stand=keeper.base()[0])
                again.through(keeper.residue())
                self.assertEqual(keeper, again)
                self.assertEqual(told_of(keeper), told_of(again))
            self.assertEqual(14, len(keeper))

    def test_many_times_as_once(self):
        for seed, house in enumerate(some_houses(60)):
            history = some_history(seed, 1 + seed % 7)
            for stand in slow_settled(house, -3):
                once, often = Keeper(house, -3, stand=stand), Keeper(house, -3, stand=stand)
                once.through(history)
                for many in (1, 2, 3):
                    often.through(history)
                    self.assertEqual(told_of(once), told_of(often), many)
                often = Keeper(house, -3, stand=stand)
                often.through(history, times=10 ** 29)
                self.assertEqual(told_of(once), told_of(often))

    def test_forget(self):
        for seed, house in enumerate(some_houses(40)):
            history = some_history(seed, 8)
            for stand in slow_settled(house, 0):
                one, other = Keeper(house, 0, stand=stand), Keeper(house, 0, stand=stand)
                one.through(history[:4])
                other.through(history[:4])
                then = other.residue()
                self.assertIsNone(one.forget())
                self.assertEqual((one.stand_now(), one.swell_now()), one.base())
                self.assertEqual([one.swell_now()], one.residue())
                for swell in history[4:]:
                    self.assertEqual(other.to(swell), one.to(swell))
                    self.assertEqual(other.stand_now(), one.stand_now())
                self.assertEqual(other.residue(), residue(then + one.residue()))

    def test_what_is_told_is_new(self):
        keeper = Keeper(HOUSE, 0)
        history = [3, 2]
        keeper.through(history)
        history.append(None)
        keeper.residue().append(7)
        keeper.mark("a")
        keeper.marks().append("b")
        self.assertEqual([0, 3, 2], keeper.residue())
        self.assertEqual(["a"], keeper.marks())
        self.assertEqual((0,), keeper.through([]))
        self.assertIsInstance(keeper.base(), tuple)

    def test_long_histories_of_great_houses(self):
        helps = tuple((a, b, 1 + (a * b) % 9) for a in range(14) for b in range(14) if a != b)
        house = House(tuple((100 * k, 100 * k - 50) for k in range(14)), helps)
        keeper = Keeper(house, -BIG)
        history = [(-1) ** place * (BIG // (place + 1)) for place in range(300)]
        for _ in range(3):
            keeper.through(history, times=10 ** 29)
        self.assertEqual(led(house, (), [-BIG, *history])[-1], keeper.stand_now())
        self.assertEqual(residue([-BIG, *history]), keeper.residue())


class UndoTest(Refusals, unittest.TestCase):
    def test_one_deed_after_another(self):
        keeper = Keeper(HOUSE, 0)
        keeper.mark("begin")
        moments = [told_of(keeper)]
        deeds = (lambda: keeper.to(5), lambda: keeper.to(5), lambda: keeper.through([1, 4]), keeper.forget,
                 lambda: keeper.through([]), lambda: keeper.through([7], times=0), lambda: keeper.mend(HELPED),
                 lambda: keeper.mend(HELPED), lambda: keeper.back("begin"), lambda: keeper.back("begin"),
                 lambda: keeper.to(9), lambda: keeper.mend(moved(HOUSE, 20)), keeper.forget)
        for many, deed in enumerate(deeds):
            self.assertEqual(many, len(keeper))
            deed()
            moments.append(told_of(keeper))
        for many in range(len(deeds), 0, -1):
            self.assertEqual(many, len(keeper))
            self.assertEqual(moments[many], told_of(keeper))
            self.assertIs(True, keeper.undo())
        self.assertEqual(moments[0], told_of(keeper))
        self.assertIs(False, keeper.undo())
        self.assertEqual((moments[0], 0), (told_of(keeper), len(keeper)))

    def test_a_deed_behind_undo(self):
        keeper = Keeper(HOUSE, 0)
        keeper.to(3)
        keeper.to(5)
        keeper.undo()
        keeper.to(2)
        self.assertEqual(2, len(keeper))
        keeper.undo()
        self.assertEqual((HOUSE, (0,), 3, ((), 0), [0, 3]), told_of(keeper))
        keeper.undo()
        self.assertEqual((HOUSE, (), 0, ((), 0), [0]), told_of(keeper))
        self.assertIs(False, keeper.undo())

    def test_what_is_refused_is_no_deed(self):
        keeper = Keeper(HOUSE, 0)
        keeper.to(3)
        ahead = told_of(keeper)
        self.refused(NoSwell, {"swell": None}, lambda: keeper.to(None))
        self.refused(NoHistory, {"place": 1}, lambda: keeper.through([1, None]))
        self.refused(NoMark, {"name": "none"}, lambda: keeper.back("none"))
        self.refused(NoMend, {"what": "many", "number": 1}, lambda: keeper.mend(House(((3, 1),))))
        self.refused(NoMend, {"what": "both", "number": 0}, lambda: keeper.mend(House(((4, 1), (4, 2)))))
        self.assertEqual((ahead, 1, []), (told_of(keeper), len(keeper), keeper.marks()))

    def test_three_hundred_deeds(self):
        keeper = Keeper(HOUSE, 0)
        for many in range(300):
            keeper.to(many % 7)
        self.assertEqual(300, len(keeper))
        while keeper.undo():
            pass
        self.assertEqual((HOUSE, (), 0, ((), 0), [0]), told_of(keeper))


class MarkTest(Refusals, unittest.TestCase):
    def test_mark_and_back(self):
        keeper = Keeper(HOUSE, 0)
        self.assertIsNone(keeper.mark("low"))
        keeper.to(4)
        keeper.forget()
        keeper.mend(HELPED)
        keeper.to(2)
        keeper.mark("z")
        keeper.mark("abcdefgh")
        moment = told_of(keeper)
        self.assertEqual(["abcdefgh", "low", "z"], keeper.marks())
        self.assertIsNone(keeper.back("low"))
        self.assertEqual((HOUSE, (), 0, ((), 0), [0]), told_of(keeper))
        self.assertEqual((0,), keeper.to(3))
        keeper.back("z")
        self.assertEqual(moment, told_of(keeper))
        # a name that stands is put on the new moment
        keeper.to(-3)
        keeper.mark("low")
        keeper.to(9)
        keeper.back("low")
        self.assertEqual((-3, (), HELPED), (keeper.swell_now(), keeper.stand_now(), keeper.house_now()))
        self.assertEqual(["abcdefgh", "low", "z"], keeper.marks())

    def test_marking_is_no_deed_and_is_not_undone(self):
        keeper = Keeper(HOUSE, 0)
        keeper.to(3)
        keeper.mark("a")
        self.assertEqual(1, len(keeper))
        keeper.undo()
        self.assertEqual(["a"], keeper.marks())
        keeper.back("a")
        self.assertEqual((0,), keeper.stand_now())
        self.assertEqual(1, len(keeper))
        keeper.undo()
        self.assertEqual(((), ["a"]), (keeper.stand_now(), keeper.marks()))

    def test_refused(self):
        keeper = Keeper(HOUSE, 0)
        keeper.mark("a")
        for thing in NO_NAMES:
            self.refused(NoMark, {"name": thing}, lambda: keeper.mark(thing))
            self.refused(NoMark, {"name": thing}, lambda: keeper.back(thing))
        self.refused(NoMark, {"name": "b"}, lambda: keeper.back("b"))
        self.assertEqual((["a"], 0), (keeper.marks(), len(keeper)))


class MendTest(Refusals, unittest.TestCase):
    def test_new_base(self):
        keeper = Keeper(HOUSE, 0)
        keeper.through([4, 3])
        self.assertEqual((), keeper.mend(HOUSE))
        self.assertEqual((HOUSE, (0, 1), 3, ((0, 1), 3), [3]), told_of(keeper))
        keeper.to(2)
        self.assertEqual((1,), keeper.mend(House(((3, 1), (5, 3)), ((0, 1, 1),))))
        self.assertEqual((((0,), 2), [2], (0,)), (keeper.base(), keeper.residue(), keeper.stand_now()))
        self.assertEqual((1,), keeper.mend(House(((3, 1), (5, 3)), ((0, 1, 9),))))
        self.assertEqual((0, 1), keeper.stand_now())

    def test_refused(self):
        keeper = Keeper(HOUSE, 0)
        self.refused(NoMend, {"what": "many", "number": 3}, lambda: keeper.mend(House(((3, 1),) * 3)))
        self.refused(NoMend, {"what": "both", "number": 1}, lambda: keeper.mend(House(((2, 1), (5, 2)))))
        self.refused(NoMend, {"what": "both", "number": 0}, lambda: keeper.mend(House(((4, 1), (4, 2)))))

    def test_what_lies_between(self):
        tried = 0
        for seed in range(150):
            numbers = Numbers(seed)
            house = some_house(seed, 3)
            moments = [(house, -12)]
            for _ in range(2):
                eased = House(tuple((up - numbers.below(4), down - 3 - numbers.below(3))
                                    for up, down in moments[-1][0].latches()), house.helps())
                moments.append((eased, moments[-1][1] + numbers.below(9)))
            if seed % 2:
                moments = moments[::-1]
            keeper = Keeper(moments[0][0], moments[0][1], stand=slow_settled(*moments[0])[0])
            for new, swell in moments[1:]:
                keeper.mend(new)
                keeper.to(swell)
            reached = keeper.stand_now()
            for _ in range(5):
                for new, swell in (moments[numbers.below(3)], moments[-1]):
                    # in whatever order: swell and house each between what they are at both ends
                    if numbers.below(2):
                        keeper.to(swell)
                        keeper.mend(new)
                    else:
                        keeper.mend(new)
                        keeper.to(swell)
                self.assertEqual(moments[-1], (keeper.house_now(), keeper.swell_now()))
                self.assertEqual(reached, keeper.stand_now())
                tried += 1
        self.assertEqual(750, tried)

    def test_a_help_taken_back_and_given_again(self):
        kept_up = 0
        for seed in range(200):
            house = some_house(seed, 4)
            helps = house.helps()
            if not helps:
                continue
            helped = House(house.latches(), (*helps[:-1], (*helps[-1][:2], 9)))
            self.assertTrue(helped_no_less(house, helped))
            for swell in (-9, -3, 2):
                for stand in slow_settled(house, swell):
                    keeper = Keeper(house, swell, stand=stand)
                    keeper.mend(helped)
                    given = keeper.stand_now()
                    keeper.mend(house)
                    kept_up += keeper.stand_now() != stand
                    keeper.mend(helped)
                    self.assertEqual(given, keeper.stand_now())
        self.assertGreater(kept_up, 0)

    def test_moved_houses_are_as_led(self):
        for seed, house in enumerate(some_houses(40)):
            for swell in (-8, -2, 3):
                for stand in slow_settled(house, swell):
                    for many in (-7, -1, 0, 2, 9):
                        one = Keeper(house, swell, stand=stand)
                        other = Keeper(house, swell, stand=stand)
                        self.assertEqual(one.to(swell + many), other.mend(moved(house, -many)))
                        self.assertEqual(one.stand_now(), other.stand_now())


class TwinTest(unittest.TestCase):
    def test_all_the_same_and_apart(self):
        keeper = Keeper(HOUSE, 0, stand=())
        keeper.through([4, 1, 3])
        keeper.mark("a")
        keeper.mend(HELPED)
        keeper.to(9)
        twin = keeper.twin()
        self.assertEqual(told_of(keeper), told_of(twin))
        self.assertEqual((3, ["a"]), (len(twin), twin.marks()))
        self.assertEqual(keeper, twin)
        ahead = told_of(keeper)
        twin.mark("b")
        twin.back("a")
        twin.mark("a")
        twin.undo()
        twin.undo()
        twin.undo()
        self.assertEqual((ahead, 3, ["a"]), (told_of(keeper), len(keeper), keeper.marks()))
        keeper.to(-5)
        keeper.mark("c")
        self.assertEqual((1, ["a", "b"]), (len(twin), twin.marks()))
        keeper.back("a")
        self.assertEqual([0, 4, 1, 3], keeper.residue())
        while twin.undo():
            pass
        self.assertEqual((HOUSE, (), 0, ((), 0), [0]), told_of(twin))

    def test_equal(self):
        one, other = Keeper(HOUSE, 2, stand=(0,)), Keeper(HOUSE, 0)
        self.assertFalse(one == other)
        other.through([3, 2])
        self.assertTrue(one == other)
        one.mark("a")
        self.assertEqual(one, other)
        for deed in (lambda keeper: keeper.to(9), lambda keeper: keeper.mend(HELPED), lambda keeper: keeper.to(1)):
            deed(one)
            self.assertFalse(one == other)
            deed(other)
            self.assertTrue(one == other)
        self.assertFalse(Keeper(HOUSE, 0) == Keeper(HELPED, 0))
        self.assertFalse(Keeper(HOUSE, 0) == Keeper(HOUSE, 1))
        self.assertFalse(Keeper(HOUSE, 2) == Keeper(HOUSE, 2, stand=(0,)))
        for thing in (None, 0, "Keeper(0, 0)", (HOUSE, (), 0), HOUSE, object()):
            self.assertFalse(Keeper(HOUSE, 0) == thing)
            self.assertTrue(Keeper(HOUSE, 0) != thing)


if __name__ == "__main__":
    unittest.main()
