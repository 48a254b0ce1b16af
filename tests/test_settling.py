"""Promises [14] to [19]: climbing, sinking, their rows and papers, and settled stands."""

import unittest

from swaykeep.errors import NoOrder, NoStand, NoSwell, TooMany, Unsettled
from swaykeep.houses import House
from swaykeep.judge_settled import settling_shows
from swaykeep.pulls import is_settled
from swaykeep.settling import (climb_paper, climb_row, climb_waves, climbed, down_first, greatest_at, joined, least_at,
                               met, settled_at, sink_paper, sink_row, sink_waves, sunk, up_first)
from tests.samples import (BIG, NO_WORDS, STRANGE, Numbers, Refusals, all_of, all_stands, orders, slow_pull, slow_row,
                           slow_settled, slow_wants, some_house, some_houses)

# a chain in which each one pulls up the next one
CHAIN = House(((2, 0), (5, 3), (8, 1)), ((0, 1, 3), (1, 2, 6)))
SWELLS = range(-16, 12, 3)
NO_STANDS = (*STRANGE, (3,), (-1,), (0, 0), (1, 0), [0, 1], 0)


class EndsTest(Refusals, unittest.TestCase):
    def test_a_chain_climbs_and_sinks(self):
        self.assertEqual((), climbed(CHAIN, (), 1))
        self.assertEqual((0, 1, 2), climbed(CHAIN, (), 2))
        self.assertEqual((1,), climbed(CHAIN, (1,), 1))
        self.assertEqual((0, 2), sunk(CHAIN, (0, 2), 2))
        self.assertEqual((0, 1, 2), sunk(CHAIN, (0, 1, 2), 1))
        self.assertEqual((), sunk(CHAIN, (0, 1, 2), -5))

    def test_no_latch_that_wants(self):
        for ask in (climbed, sunk):
            self.assertEqual((0,), ask(House(((3, 1),)), (0,), 2))
            self.assertEqual((), ask(House(((3, 1),)), (), 2))
        for ask in (climb_row, sink_row, climb_waves, sink_waves):
            self.assertEqual([], ask(House(((3, 1),)), (), 2))

    def test_help_goes_round_and_round(self):
        ring = House(((3, 1), (9, 1), (9, 1)), ((0, 1, 7), (1, 2, 7), (2, 0, 7)))
        self.assertEqual((0, 1, 2), climbed(ring, (), 3))
        self.assertEqual((0, 1, 2), sunk(ring, (0, 1, 2), -5))
        self.assertEqual((), sunk(ring, (0, 1, 2), -6))
        self.assertEqual((), climbed(ring, (), 2))

    def test_one_at_a_time_in_several_orders(self):
        for house in some_houses(20):
            for stand in all_stands(house):
                for swell in SWELLS:
                    for order in orders(house, 3):
                        self.assertEqual(slow_row(house, stand, swell, order, True)[1], climbed(house, stand, swell))
                        self.assertEqual(slow_row(house, stand, swell, order, False)[1], sunk(house, stand, swell))

    def test_least_above_and_greatest_within(self):
        for house in some_houses(12):
            for stand in all_stands(house):
                for swell in SWELLS:
                    above = [set(other) for other in all_stands(house)
                             if set(stand) <= set(other) and not slow_wants(house, other, swell)[0]]
                    within = [set(other) for other in all_stands(house)
                              if set(other) <= set(stand) and not slow_wants(house, other, swell)[1]]
                    self.assertEqual(set.intersection(*above), set(climbed(house, stand, swell)))
                    self.assertEqual(set.union(*within), set(sunk(house, stand, swell)))

    def test_from_settled_stands_ends_are_settled(self):
        for house in some_houses(15):
            for swell in SWELLS:
                for stand in slow_settled(house, swell):
                    for farther in (0, 1, 5):
                        self.assertTrue(is_settled(house, climbed(house, stand, swell + farther), swell + farther))
                        self.assertTrue(is_settled(house, sunk(house, stand, swell - farther), swell - farther))

    def test_big_swells(self):
        house = some_house(2, 14, 40)
        self.assertEqual(all_of(house), climbed(house, (), 10 * BIG - 1))
        self.assertEqual((), sunk(house, all_of(house), -10 * BIG + 1))

    def test_refusals_in_their_order(self):
        asks = (climbed, sunk, climb_row, sink_row, climb_waves, sink_waves, up_first, down_first, climb_paper,
                sink_paper)
        for ask in asks:
            for thing in NO_STANDS:
                self.refused(NoStand, {"stand": thing}, lambda: ask(CHAIN, thing, None))
            for thing in STRANGE:
                self.refused(NoSwell, {"swell": thing}, lambda: ask(CHAIN, (), thing))


class RowTest(Refusals, unittest.TestCase):
    def test_by_numbers_where_the_order_is_left_out(self):
        house = House(((9, 0), (2, 0), (2, 0)), ((1, 0, 7),))
        self.assertEqual([1, 0, 2], climb_row(house, (), 2))
        self.assertEqual([0, 1, 2], sink_row(house, (0, 1, 2), -7))
        self.assertEqual([1, 0, 2], climb_row(house, (), 2, order=(0, 1, 2)))

    def test_by_an_order(self):
        house = House(((9, 0), (2, 0), (2, 0)), ((1, 0, 7),))
        self.assertEqual([2, 1, 0], climb_row(house, (), 2, order=(2, 1, 0)))
        self.assertEqual([2, 1, 0], climb_row(house, (), 2, order=(0, 2, 1)))
        self.assertEqual([1, 0, 2], sink_row(house, (0, 1, 2), -7, order=(1, 0, 2)))

    def test_like_the_slow_model(self):
        for house in some_houses(15):
            for stand in all_stands(house):
                for swell in SWELLS:
                    for order in orders(house, 3):
                        row = slow_row(house, stand, swell, order, True)[0]
                        self.assertEqual(row, climb_row(house, stand, swell, order=order))
                        row = slow_row(house, stand, swell, order, False)[0]
                        self.assertEqual(row, sink_row(house, stand, swell, order=order))

    def test_the_order_is_handed_by_name(self):
        for ask in (climb_row, sink_row):
            with self.assertRaises(TypeError):
                ask(CHAIN, (), 0, (0, 1, 2))

    def test_orders_of_anything(self):
        for ask in (climb_row, sink_row):
            for thing in (*STRANGE, (), (0, 1), (0, 1, 1), (0, 1, 2, 2), [0, 1, 2], (0, True, 2), (-1, 0, 1),
                          (1, 2, 3)):
                if thing is not None:
                    self.refused(NoOrder, {"order": thing}, lambda: ask(CHAIN, (), 0, order=thing))
            self.refused(NoStand, {"stand": (9,)}, lambda: ask(CHAIN, (9,), None, order=1))
            self.refused(NoSwell, {"swell": None}, lambda: ask(CHAIN, (), None, order=1))

    def test_waves(self):
        self.assertEqual([[0], [1], [2]], climb_waves(CHAIN, (), 2))
        self.assertEqual([[0, 1], [2]], climb_waves(CHAIN, (), 5))
        self.assertEqual([[0, 1], [2]], sink_waves(CHAIN, (0, 1, 2), 0))
        self.assertEqual([[0, 2], [1]], sink_waves(House(((2, 0), (5, 3), (8, 1)), ((0, 1, 4),)), (0, 1, 2), 0))

    def test_waves_are_all_that_want_at_once(self):
        for house in some_houses(20):
            for stand in all_stands(house):
                for swell in SWELLS:
                    for side, told in enumerate((climb_waves(house, stand, swell), sink_waves(house, stand, swell))):
                        now = stand
                        for wave in told:
                            self.assertEqual(slow_wants(house, now, swell)[side], wave)
                            self.assertTrue(wave)
                            now = tuple(sorted(set(now) ^ set(wave)))
                        self.assertEqual([], slow_wants(house, now, swell)[side])

    def test_lists_are_new(self):
        for ask in (climb_row, climb_waves):
            told = ask(CHAIN, (), 5)
            told.append("x")
            self.assertNotIn("x", ask(CHAIN, (), 5))
        climb_waves(CHAIN, (), 5)[0].append("x")
        self.assertEqual([[0, 1], [2]], climb_waves(CHAIN, (), 5))
        self.assertEqual([list, list], [type(climb_waves(CHAIN, (), 5)), type(climb_waves(CHAIN, (), 5)[0])])


class FirstTest(unittest.TestCase):
    def test_both_kinds_that_want(self):
        house = House(((3, 1), (9, 8)), ((1, 0, 2),))
        self.assertEqual((0,), up_first(house, (1,), 2))
        self.assertEqual((), down_first(house, (1,), 2))

    def test_both_ends_are_settled_and_one_within_the_other(self):
        for house in some_houses(25):
            for stand in all_stands(house):
                for swell in SWELLS:
                    upper, lower = up_first(house, stand, swell), down_first(house, stand, swell)
                    self.assertEqual(sunk(house, climbed(house, stand, swell), swell), upper)
                    self.assertEqual(climbed(house, sunk(house, stand, swell), swell), lower)
                    self.assertEqual(([], []), slow_wants(house, upper, swell))
                    self.assertEqual(([], []), slow_wants(house, lower, swell))
                    self.assertLessEqual(set(lower), set(upper))

    def test_any_going_that_ends_ends_between(self):
        numbers = Numbers(5)
        for house in some_houses(40):
            stand = numbers.below(2 ** len(house))
            stand = tuple(latch for latch in all_of(house) if stand >> latch & 1)
            for swell in SWELLS:
                upper, lower = up_first(house, stand, swell), down_first(house, stand, swell)
                for _ in range(5):
                    now = stand
                    for _ in range(60):
                        going = sum(slow_wants(house, now, swell), [])
                        if not going:
                            self.assertLessEqual(set(lower), set(now))
                            self.assertLessEqual(set(now), set(upper))
                            break
                        now = tuple(sorted(set(now) ^ {going[numbers.below(len(going))]}))


class PaperTest(Refusals, unittest.TestCase):
    def test_told_papers(self):
        self.assertEqual(("climbed", ((0, 2), (1, 5), (2, 8)), ()), climb_paper(CHAIN, (), 2))
        self.assertEqual(("climbed", (), ((0, 1), (1, 1), (2, 1))), climb_paper(CHAIN, (), 1))
        self.assertEqual(("sunk", ((0, 0), (1, 0), (2, 0)), ()), sink_paper(CHAIN, (0, 1, 2), 0))
        self.assertEqual(("sunk", (), ((0, 1), (1, 4), (2, 7))), sink_paper(CHAIN, (0, 1, 2), 1))

    def test_sunk_paper_tells_the_pulls_of_those_that_stay_up(self):
        house = House(((2, 0), (5, 3), (8, 1)), ((1, 2, 4),))
        self.assertEqual(("sunk", ((0, 0), (1, 0)), ()), sink_paper(house, (0, 1), 0))
        self.assertEqual(("sunk", ((1, 2), (2, 2)), ((0, 2),)),
                         sink_paper(House(((2, 0), (5, 3), (8, 3)), ((1, 2, 4),)), (0, 1, 2), 2))

    def test_told_papers_are_shown(self):
        for house in some_houses(20):
            for stand in all_stands(house):
                for swell in SWELLS:
                    for ask, row, end, up in ((climb_paper, climb_row, climbed, True),
                                              (sink_paper, sink_row, sunk, False)):
                        told, last = ask(house, stand, swell), end(house, stand, swell)
                        self.assertIs(True, settling_shows(house, stand, swell, last, told))
                        word, went, stayed = told
                        self.assertEqual("climbed" if up else "sunk", word)
                        self.assertEqual(row(house, stand, swell), [latch for latch, _ in went])
                        self.assertEqual(tuple((latch, slow_pull(house, last, latch, swell)) for latch in all_of(house)
                                               if (latch in last) != up), stayed)
                        for other in all_stands(house):
                            self.assertIs(other == last, settling_shows(house, stand, swell, other, told))

    def test_another_row_and_another_order_of_those_that_stay_show_it_too(self):
        house = House(((2, 0), (2, 0), (9, 0), (9, 1)), ((0, 2, 1),))
        for went in (((0, 3), (1, 3)), ((1, 3), (0, 3))):
            for stayed in (((2, 4), (3, 3)), ((3, 3), (2, 4))):
                self.assertIs(True, settling_shows(house, (), 3, (0, 1), ("climbed", went, stayed)))

    def test_wrong_papers(self):
        house = House(((2, 0), (2, 0), (9, 0), (9, 1)), ((0, 2, 1),))
        went, stayed = ((0, 3), (1, 3)), ((2, 4), (3, 3))
        wrong = (
            ("sunk", went, stayed), ("climbed", went[:1], stayed), ("climbed", went + went[:1], stayed),
            ("climbed", ((0, 3), (1, 4)), stayed), ("climbed", ((0, 4), (1, 3)), stayed), ("climbed", went, stayed[:1]),
            ("climbed", went, stayed + stayed[:1]), ("climbed", went, ((2, 3), (3, 3))),
            ("climbed", went, ((2, 4), (3, 4))),
            ("climbed", went + ((2, 4),), ((3, 3),)), ("climbed", went[:1], ((1, 3), (2, 4), (3, 3))),
            ("climbed", list(went), stayed), ("climbed", went, list(stayed)), ("climbed", ([0, 3], [1, 3]), stayed),
            ("climbed", went, ([2, 4], [3, 3])), ("climbed", ((0, 3), (True, 3)), stayed), ["climbed", went, stayed],
            ("climbed", ((0, 3, 3), (1, 3)), stayed), ("climbed", went, ((2, 4), (3,))), ("climbed", went, stayed, ()),
            ("climbed", went), ("climbed", ((0, 3.0), (1, 3)), stayed), ("climbed", ((0, None), (1, 3)), stayed),
            ("climbed", went, ((2, 4), (4, 3))), ("climbed", went, ((2, 4), (-1, 3))), ("climbed", went, None),
            ("climbed", None, stayed), (None, went, stayed), (b"climbed", went, stayed), ("Climbed", went, stayed),
            (), went)
        words = [(word, went, stayed) for word in NO_WORDS]
        pulls = [("climbed", ((0, word), (1, 3)), stayed) for word in NO_WORDS]
        for paper in (*wrong, *words, *pulls, *STRANGE):
            self.assertIs(False, settling_shows(house, (), 3, (0, 1), paper))
        self.assertIs(True, settling_shows(house, (), 3, (0, 1), ("climbed", went, stayed)))

    def test_what_went_must_want_to(self):
        house = House(((2, 0), (5, 0)))
        self.assertIs(False, settling_shows(house, (), 2, (0, 1), ("climbed", ((0, 2), (1, 2)), ())))
        self.assertIs(False, settling_shows(house, (0, 1), 1, (1,), ("sunk", ((0, 1),), ((1, 1),))))
        self.assertIs(False, settling_shows(house, (), 2, (), ("climbed", (), ((0, 2), (1, 2)))))
        self.assertIs(False, settling_shows(house, (0, 1), 0, (0, 1), ("sunk", (), ((0, 0), (1, 0)))))

    def test_wrong_papers_of_sinking(self):
        house = House(((2, 0), (2, 0), (9, -5)))
        went, stayed = ((1, 0),), ((2, 0),)
        self.assertIs(True, settling_shows(house, (1, 2), 0, (2,), ("sunk", went, stayed)))
        for word in (*NO_WORDS, "", "sank", "SUNK", "climbed"):
            self.assertIs(False, settling_shows(house, (1, 2), 0, (2,), (word, went, stayed)))
        # what is down already cannot go down
        for wrong in (((0, 0), (1, 0)), ((1, 0), (1, 0)), ((1, 0), (0, 0))):
            self.assertIs(False, settling_shows(house, (1, 2), 0, (2,), ("sunk", wrong, stayed)))
        for wrong in (((0, 0), (2, 0)), ((2, 1),), (), ((2, 0), (2, 0))):
            self.assertIs(False, settling_shows(house, (1, 2), 0, (2,), ("sunk", went, wrong)))

    def test_ends_of_anything(self):
        paper = climb_paper(CHAIN, (), 2)
        for thing in (*NO_STANDS, [0, 1, 2], (0, 1), (), (0, 1, 2, 3), (0, True, 2), (False, 1, 2)):
            self.assertIs(False, settling_shows(CHAIN, (), 2, thing, paper))
        self.assertIs(True, settling_shows(CHAIN, (), 2, (0, 1, 2), paper))

    def test_refusals_in_their_order(self):
        for thing in NO_STANDS:
            self.refused(NoStand, {"stand": thing}, lambda: settling_shows(CHAIN, thing, None, None, None))
        for thing in STRANGE:
            self.refused(NoSwell, {"swell": thing}, lambda: settling_shows(CHAIN, (), thing, None, None))


class SettledTest(Refusals, unittest.TestCase):
    def test_all_settled_stands_sorted(self):
        house = House(((3, 1), (3, 1)))
        self.assertEqual([(), (0,), (0, 1), (1,)], settled_at(house, 2))
        self.assertEqual([(0, 1)], settled_at(house, 3))
        self.assertEqual([()], settled_at(house, 1))

    def test_like_the_slow_model(self):
        for house in some_houses(20):
            for swell in range(-20, 14):
                stands = slow_settled(house, swell)
                self.assertEqual(stands, settled_at(house, swell))
                least, greatest = least_at(house, swell), greatest_at(house, swell)
                self.assertIn(least, stands)
                self.assertIn(greatest, stands)
                for stand in stands:
                    self.assertTrue(set(least) <= set(stand) <= set(greatest))

    def test_joined_and_met_are_a_lattice(self):
        for house in some_houses(20):
            for swell in SWELLS:
                stands = slow_settled(house, swell)
                for one in stands:
                    for other in stands:
                        both, common = joined(house, swell, one, other), met(house, swell, one, other)
                        above = [set(s) for s in stands if set(one) | set(other) <= set(s)]
                        within = [set(s) for s in stands if set(s) <= set(one) & set(other)]
                        self.assertIn(both, stands)
                        self.assertIn(common, stands)
                        self.assertEqual(set.intersection(*above), set(both))
                        self.assertEqual(set.union(*within), set(common))

    def test_joined_climbs_on_and_met_sinks_on(self):
        house = House(((3, 0), (3, 0), (9, 7)), ((0, 2, 4), (1, 2, 4)))
        self.assertEqual((0, 1, 2), joined(house, 1, (0,), (1,)))
        self.assertEqual((), met(House(((9, 0), (9, 0), (9, 3)), ((0, 2, 4), (1, 2, 4))), 1, (0, 2), (1, 2)))

    def test_houses_of_ten_and_of_eleven_latches(self):
        self.assertEqual(1024, len(settled_at(House(((3, 1),) * 10), 2)))
        self.assertEqual([()], settled_at(House(((3, 1),) * 10), -BIG))
        house = House(((3, 1),) * 11)
        self.refused(TooMany, {"limit": 10}, lambda: settled_at(house, 2))
        for thing in STRANGE:
            self.refused(NoSwell, {"swell": thing}, lambda: settled_at(house, thing))
        self.assertEqual((), least_at(house, 2))
        self.assertEqual(all_of(house), greatest_at(house, 2))

    def test_ten_latches_with_all_helps(self):
        house = some_house(3, 10, 90)
        for swell in (-40, -10, 0):
            for stand in settled_at(house, swell):
                self.assertEqual(([], []), slow_wants(house, stand, swell))

    def test_the_list_is_new(self):
        house = House(((3, 1),))
        settled_at(house, 2).append("x")
        self.assertEqual([(), (0,)], settled_at(house, 2))

    def test_refusals_in_their_order(self):
        house = House(((3, 1), (5, 2)))
        for thing in STRANGE:
            for ask in (least_at, greatest_at, settled_at):
                self.refused(NoSwell, {"swell": thing}, lambda: ask(house, thing))
        for ask in (joined, met):
            for thing in (*STRANGE, (2,), (1, 0), [0]):
                self.refused(NoStand, {"stand": thing}, lambda: ask(house, None, thing, None))
                self.refused(NoStand, {"stand": thing}, lambda: ask(house, None, (), thing))
            for thing in STRANGE:
                self.refused(NoSwell, {"swell": thing}, lambda: ask(house, thing, (0,), (1,)))
            self.refused(Unsettled, {"latch": 1, "swell": 2}, lambda: ask(house, 2, (0, 1), (0, 1)))
            self.refused(Unsettled, {"latch": 1, "swell": 2}, lambda: ask(house, 2, (0,), (1,)))
            self.refused(Unsettled, {"latch": 0, "swell": 9}, lambda: ask(house, 9, (), (0,)))
            self.refused(Unsettled, {"latch": 1, "swell": 9}, lambda: ask(house, 9, (0,), ()))
            self.refused(Unsettled, {"latch": 0, "swell": -1}, lambda: ask(house, -1, (), (0, 1)))


if __name__ == "__main__":
    unittest.main()
