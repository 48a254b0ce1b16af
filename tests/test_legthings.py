"""Promise [27]: legs as things."""

import unittest

from swaykeep.errors import NoJoin, NoStand, NoSwell, Unsettled
from swaykeep.falls import falls
from swaykeep.houses import House
from swaykeep.legs import leg
from swaykeep.legthings import Leg
from tests.samples import BIG, STRANGE, Refusals, slow_leg, slow_settled, some_houses

CHAIN = House(((2, 0), (5, 3), (8, 1)), ((0, 1, 3), (1, 2, 5)))
NO_STANDS = (*STRANGE, (3,), (-1,), (0, 0), (1, 0), [0, 1], 0)


def some_legs(many):
    return [Leg(house, stand, start, end) for house in some_houses(many) for start in (-9, -2, 4)
            for stand in slow_settled(house, start) for end in (start - 12, start - 3, start, start + 2, start + 12)]


class LegThingTest(Refusals, unittest.TestCase):
    def test_what_it_is_made_of(self):
        up, down, nowhere = Leg(CHAIN, (), 0, 2), Leg(CHAIN, (0, 1, 2), 9, -BIG), Leg(CHAIN, (0, 1), 2, 2)
        for thing, stand, last, start, end, way, went in (
                (up, (), (0, 1), 0, 2, "up", (0, 1)), (down, (0, 1, 2), (), 9, -BIG, "down", (0, 1, 2)),
                (nowhere, (0, 1), (0, 1), 2, 2, "up", ())):
            self.assertEqual(CHAIN, thing.its_house())
            self.assertEqual((stand, last), (thing.first_stand(), thing.last_stand()))
            self.assertEqual((start, end, way), (thing.from_swell(), thing.to_swell(), thing.goes()))
            self.assertEqual((went, len(went)), (thing.went(), len(thing)))
            self.assertEqual(f"Leg({start}, {end}, {len(went)})", repr(thing))

    def test_like_leg_and_falls(self):
        for thing in some_legs(12):
            parts = thing.its_house(), thing.first_stand(), thing.from_swell(), thing.to_swell()
            self.assertEqual(leg(*parts), thing.last_stand())
            self.assertEqual(falls(*parts), thing.its_falls())
            self.assertEqual(sorted(latch for _, latches in thing.its_falls() for latch in latches), list(thing.went()))
            self.assertEqual("up" if parts[3] >= parts[2] else "down", thing.goes())

    def test_falls_are_new_each_time(self):
        thing = Leg(CHAIN, (), 0, 9)
        thing.its_falls().clear()
        self.assertEqual([(2, (0, 1)), (3, (2,))], thing.its_falls())
        self.assertIs(list, type(thing.its_falls()))
        self.assertIs(tuple, type(thing.went()))

    def test_refused_as_leg(self):
        for thing in NO_STANDS:
            self.refused(NoStand, {"stand": thing}, lambda: Leg(CHAIN, thing, None, None))
        for thing in STRANGE:
            self.refused(NoSwell, {"swell": thing}, lambda: Leg(CHAIN, (), thing, "x"))
            self.refused(NoSwell, {"swell": thing}, lambda: Leg(CHAIN, (), 99, thing))
        self.refused(Unsettled, {"latch": 0, "swell": 99}, lambda: Leg(CHAIN, (), 99, 0))

    def test_stand_at(self):
        for thing in some_legs(6):
            start, end = thing.from_swell(), thing.to_swell()
            low, high = min(start, end), max(start, end)
            for swell in range(low, high + 1):
                expected = slow_leg(thing.its_house(), thing.first_stand(), start, swell)
                self.assertEqual(expected, thing.stand_at(swell))
            for swell in (low - 1, high + 1, -BIG, BIG, *STRANGE):
                for ask in (thing.stand_at, thing.cut_at):
                    self.refused(NoSwell, {"swell": swell}, lambda: ask(swell))

    def test_true_is_no_swell_on_it(self):
        self.refused(NoSwell, {"swell": True}, lambda: Leg(CHAIN, (), 0, 1).stand_at(True))

    def test_parted_and_joined(self):
        for thing in some_legs(6):
            start, end = thing.from_swell(), thing.to_swell()
            for swell in range(min(start, end), max(start, end) + 1):
                parts = thing.cut_at(swell)
                self.assertIs(tuple, type(parts))
                one, other = parts
                self.assertEqual(Leg(thing.its_house(), thing.first_stand(), start, swell), one)
                self.assertEqual(Leg(thing.its_house(), thing.stand_at(swell), swell, end), other)
                self.assertEqual(thing, one.joined_with(other))
                self.assertEqual(thing.its_falls(), one.its_falls() + other.its_falls())

    def test_joined_where_one_goes_nowhere(self):
        nowhere, down = Leg(CHAIN, (0, 1, 2), 9, 9), Leg(CHAIN, (0, 1, 2), 9, 0)
        self.assertEqual(down, nowhere.joined_with(down))
        self.assertEqual("down", nowhere.joined_with(down).goes())
        self.assertEqual(down, down.joined_with(Leg(CHAIN, (), 0, 0)))
        self.assertEqual(nowhere, nowhere.joined_with(nowhere))

    def test_no_join(self):
        thing = Leg(CHAIN, (), 0, 2)
        other_house = House(CHAIN.latches() + ((9, 8),), CHAIN.helps())
        for what, other in (
                ("house", Leg(other_house, (0, 1), 2, 9)), ("house", Leg(other_house, (), 0, -1)),
                ("swell", Leg(CHAIN, (0, 1), 1, 9)), ("swell", Leg(CHAIN, (), 1, 0)),
                ("stand", Leg(CHAIN, (0, 1, 2), 2, 9)), ("stand", Leg(CHAIN, (0, 1, 2), 2, 0)),
                ("way", Leg(CHAIN, (0, 1), 2, 1))):
            self.refused(NoJoin, {"what": what}, lambda: thing.joined_with(other))
        self.refused(NoJoin, {"what": "way"}, lambda: Leg(CHAIN, (0, 1), 2, 1).joined_with(Leg(CHAIN, (0, 1), 1, 2)))

    def test_a_leg_that_moves_nothing_has_its_way_all_the_same(self):
        self.refused(NoJoin, {"what": "way"}, lambda: Leg(CHAIN, (), -5, -4).joined_with(Leg(CHAIN, (), -4, -9)))

    def test_turned_round(self):
        for thing in some_legs(8):
            back = thing.turned_round()
            self.assertEqual(Leg(thing.its_house(), thing.last_stand(), thing.to_swell(), thing.from_swell()), back)
            self.assertEqual(thing.last_stand(), back.first_stand())

    def test_equal_where_house_stand_start_and_end_are(self):
        thing = Leg(CHAIN, (), 0, 2)
        self.assertTrue(thing == Leg(House(CHAIN.latches(), CHAIN.helps()[::-1]), (), 0, 2))
        for other in (Leg(CHAIN, (), 1, 2), Leg(CHAIN, (), 0, 1), Leg(CHAIN, (0, 1), 2, 2),
                      Leg(House(CHAIN.latches()), (), 0, 2), None, (), "Leg(0, 2, 2)", CHAIN, *STRANGE):
            self.assertFalse(thing == other)
            self.assertTrue(thing != other)
        self.assertFalse(Leg(CHAIN, (0, 1), 2, 2) == Leg(CHAIN, (0, 1, 2), 2, 2))


if __name__ == "__main__":
    unittest.main()
