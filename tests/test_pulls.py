"""Promises [9], [10] and [11]: pulls, wants, spans and torn stands."""

import unittest

from swaykeep.errors import NoLatch, NoStand, NoSwell
from swaykeep.houses import House
from swaykeep.judge_torn import torn_shows
from swaykeep.pulls import help_in, is_settled, pull, span, torn, wants
from tests.samples import BIG, NO_WORDS, STRANGE, Refusals, all_stands, slow_pull, slow_wants, some_houses

HOUSE = House(((3, 1), (4, -2), (0, -1)), ((2, 0, 9), (0, 2, 1), (1, 0, 3)))
NO_STANDS = (*STRANGE, (3,), (-1,), (0, 0), (1, 0), [0, 1], 0)


class PullTest(Refusals, unittest.TestCase):
    def test_help_is_what_those_that_are_up_lend(self):
        self.assertEqual(0, help_in(HOUSE, (), 0))
        self.assertEqual(12, help_in(HOUSE, (0, 1, 2), 0))
        self.assertEqual(9, help_in(HOUSE, (2,), 0))
        self.assertEqual(1, help_in(HOUSE, (0, 1), 2))
        self.assertEqual(0, help_in(HOUSE, (0, 1, 2), 1))

    def test_pull_is_swell_and_help(self):
        self.assertEqual(-4, pull(HOUSE, (1,), 0, -7))
        self.assertEqual(10 * BIG + 2, pull(HOUSE, (1,), 0, 10 * BIG - 1))
        for house in some_houses(12):
            for stand in all_stands(house):
                for latch in range(len(house)):
                    self.assertEqual(slow_pull(house, stand, latch, -3), pull(house, stand, latch, -3))
                    self.assertEqual(slow_pull(house, stand, latch, 0), help_in(house, stand, latch))

    def test_refusals_in_their_order(self):
        for thing in NO_STANDS:
            self.refused(NoStand, {"stand": thing}, lambda: help_in(HOUSE, thing, None))
            self.refused(NoStand, {"stand": thing}, lambda: pull(HOUSE, thing, None, None))
        for thing in (*STRANGE, -1, 3, BIG):
            self.refused(NoLatch, {"latch": thing}, lambda: help_in(HOUSE, (), thing))
            self.refused(NoLatch, {"latch": thing}, lambda: pull(HOUSE, (), thing, None))
        for thing in STRANGE:
            self.refused(NoSwell, {"swell": thing}, lambda: pull(HOUSE, (), 0, thing))


class WantsTest(Refusals, unittest.TestCase):
    def test_edges_of_one_latch(self):
        house = House(((3, 1),))
        self.assertEqual(([], []), wants(house, (), 2))
        self.assertEqual(([0], []), wants(house, (), 3))
        self.assertEqual(([], []), wants(house, (0,), 2))
        self.assertEqual(([], [0]), wants(house, (0,), 1))
        self.assertEqual([True, False], [is_settled(house, (), 2), is_settled(house, (), 3)])
        self.assertEqual([True, False], [is_settled(house, (0,), 2), is_settled(house, (0,), 1)])

    def test_both_kinds_may_want(self):
        house = House(((3, 1), (9, 8), (0, -5)))
        self.assertEqual(([0, 2], [1]), wants(house, (1,), 5))

    def test_like_the_slow_model(self):
        for house in some_houses(20):
            for stand in all_stands(house):
                for swell in range(-20, 14):
                    self.assertEqual(slow_wants(house, stand, swell), wants(house, stand, swell))
                    settled = slow_wants(house, stand, swell) == ([], [])
                    self.assertIs(settled, is_settled(house, stand, swell))

    def test_lists_are_new(self):
        told = wants(HOUSE, (), 9)
        self.assertEqual([tuple, list, list], [type(told), type(told[0]), type(told[1])])
        told[0].append("x")
        told[1].append("x")
        self.assertEqual(([0, 1, 2], []), wants(HOUSE, (), 9))

    def test_refusals_in_their_order(self):
        for ask in (wants, is_settled):
            for thing in NO_STANDS:
                self.refused(NoStand, {"stand": thing}, lambda: ask(HOUSE, thing, None))
            for thing in STRANGE:
                self.refused(NoSwell, {"swell": thing}, lambda: ask(HOUSE, (), thing))


class SpanTest(Refusals, unittest.TestCase):
    def test_ends_that_are_none(self):
        house = House(((3, 1), (5, 2)))
        self.assertEqual((None, 2), span(house, ()))
        self.assertEqual((3, None), span(house, (0, 1)))
        self.assertEqual((2, 4), span(house, (0,)))

    def test_help_moves_the_ends(self):
        house = House(((3, 1), (50, 20)), ((0, 1, 4), (1, 0, 7)))
        self.assertEqual((2, 45), span(house, (0,)))
        self.assertEqual((17, None), span(house, (0, 1)))

    def test_one_swell_alone(self):
        house = House(((9, 4), (6, 0)))
        self.assertEqual((5, 5), span(house, (0,)))
        self.assertIsNone(torn(house, (0,)))

    def test_settled_just_at_the_swells_of_the_span(self):
        for house in some_houses(40):
            for stand in all_stands(house):
                swells = [swell for swell in range(-60, 40) if slow_wants(house, stand, swell) == ([], [])]
                told = span(house, stand)
                if told is None:
                    self.assertEqual([], swells)
                    continue
                low, high = told
                self.assertEqual(low is None, stand == ())
                self.assertEqual(high is None, len(stand) == len(house))
                self.assertEqual(list(range(-60 if low is None else low, 40 if high is None else high + 1)), swells)
                self.assertTrue(swells)

    def test_big_numbers(self):
        house = House(((BIG, -BIG), (2 * BIG, BIG - 1)))
        self.assertEqual((BIG, None), span(house, (0, 1)))
        self.assertEqual(("torn", 1, 0), torn(house, (1,)))

    def test_span_and_torn_refuse_what_is_no_stand(self):
        for ask in (span, torn):
            for thing in NO_STANDS:
                self.refused(NoStand, {"stand": thing}, lambda: ask(HOUSE, thing))


class TornTest(Refusals, unittest.TestCase):
    def test_least_numbers_of_those_that_need_most_and_bear_least(self):
        house = House(((9, 3), (9, 7), (9, 7), (5, 0), (4, 0), (4, 1)))
        self.assertEqual(("torn", 1, 4), torn(house, (0, 1, 2)))
        self.assertIsNone(span(house, (0, 1, 2)))
        self.assertIs(tuple, type(torn(house, (0, 1, 2))))

    def test_none_where_there_is_a_span(self):
        for house in some_houses(30):
            for stand in all_stands(house):
                self.assertEqual(span(house, stand) is None, torn(house, stand) is not None)

    def test_shown_just_where_one_needs_more_than_other_bears(self):
        for house in some_houses(25):
            for stand in all_stands(house):
                told = torn(house, stand)
                held = []
                for one in range(len(house)):
                    for other in range(len(house)):
                        need = house.down_at(one) + 1 - slow_pull(house, stand, one, 0)
                        bear = house.up_at(other) - 1 - slow_pull(house, stand, other, 0)
                        holds = one in stand and other not in stand and need > bear
                        self.assertIs(holds, torn_shows(house, stand, ("torn", one, other)))
                        held.extend([("torn", one, other)] if holds else [])
                self.assertTrue(told in held if told else not held)

    def test_any_that_are_torn_show_it(self):
        house = House(((9, 3), (9, 7), (9, 7), (5, 0), (4, 0), (4, 1)))
        for paper in (("torn", 1, 4), ("torn", 2, 5), ("torn", 1, 3), ("torn", 0, 0), ("torn", 4, 1)):
            self.assertIs(paper[1] in (1, 2), torn_shows(house, (0, 1, 2), paper))
        self.assertIs(True, torn_shows(house, (0, 1, 2), ("torn", 0, 4)))
        self.assertIs(False, torn_shows(house, (0, 1, 2), ("torn", 0, 3)))

    def test_papers_of_anything(self):
        house = House(((9, 3), (9, 7), (4, 0)))
        self.assertIs(True, torn_shows(house, (1,), ("torn", 1, 2)))
        wrong = (*STRANGE, (), ("torn",), ("torn", 1), ("torn", 1, 2, 2), ["torn", 1, 2], ("span", 1, 2),
                 (("torn", 1, 2),), ("torn", True, 2), ("torn", 1, 2.0), ("torn", 1, 3), ("torn", -2, 2),
                 ("torn", 1, -1), ("torn", (1,), 2), ("torn", 1, None), (None, 1, 2), (1, 1, 2), ("torn", 1, "2"),
                 (b"torn", 1, 2), ("torn", [1], [2]), ("torn", 1, BIG))
        words = [(word, 1, 2) for word in NO_WORDS] + [("torn", word, 2) for word in NO_WORDS]
        for paper in (*wrong, *words):
            self.assertIs(False, torn_shows(house, (1,), paper))

    def test_true_is_no_latch(self):
        house = House(((9, 7), (4, 0)))
        self.assertIs(True, torn_shows(house, (0,), ("torn", 0, 1)))
        for paper in (("torn", False, 1), ("torn", 0, True), ("torn", False, True)):
            self.assertIs(False, torn_shows(house, (0,), paper))

    def test_stand_is_refused_ahead_of_the_paper(self):
        for thing in NO_STANDS:
            self.refused(NoStand, {"stand": thing}, lambda: torn_shows(HOUSE, thing, None))


if __name__ == "__main__":
    unittest.main()
