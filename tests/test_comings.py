"""Promises [60] to [63], [66], [67]: islands, how they are left, the fewest turns, comings and their papers."""

import unittest

from swaykeep.comings import coming, fewest, island_of, leaving
from swaykeep.dips import deepest_dip, ends, highest_peak, widening
from swaykeep.errors import NoSpan, NoStand
from swaykeep.falls import falls, floor, roof
from swaykeep.houses import House
from swaykeep.judge_comings import coming_shows
from swaykeep.legs import led
from swaykeep.pulls import span
from swaykeep.turning import moved, others, renamed, turned
from tests.samples import (BIG, NO_WORDS, STRANGE, Angry, Numbers, Refusals, Yes, all_of, all_stands, slow_graph,
                           slow_islands, slow_turns, some_house, some_houses)

HOUSE = House(((3, 1), (5, 2)), ((0, 1, 1),))
NEST = House(((10, -9), (8, -9), (8, -7), (6, -7), (6, -5), (4, -5), (4, -3), (2, -3), (11, -11)))
# {0} is an island of its own: from it 1 goes up at 2, and holds 0 up ever after; below it all go down
ALONE = House(((4, -1), (9, 2)), ((0, 1, 7), (1, 0, 9)))
ASKED = (island_of, leaving, fewest, coming)


def spanned(house):
    return [stand for stand in all_stands(house) if span(house, stand) is not None]


def nested_house(seed):
    """Latches whose swings lie within one another, some of which help a little."""
    numbers = Numbers(seed)
    pairs = tuple((numbers.between(1, 9), numbers.between(-9, 0)) for _ in range(6))
    return House(pairs, tuple(row for row in some_house(seed, 6, seed % 5).helps() if row[2] < 4))


def houses():
    return [*some_houses(40), *[nested_house(seed) for seed in range(8)], HOUSE, ALONE]


def swells_told(widened):
    return tuple(swell for swell, _ in widened)


class IslandTest(Refusals, unittest.TestCase):
    def test_plain_ones(self):
        self.assertEqual(((), (0, 1), None, None), island_of(HOUSE, ()))
        self.assertEqual(((), (0, 1), None, None), island_of(HOUSE, (0,)))
        self.assertEqual(((), (0, 1), None, None), island_of(HOUSE, (0, 1)))
        self.assertEqual((None, None), leaving(HOUSE, (0,)))

    def test_beside_all_stands_and_falls(self):
        alone = wide = 0
        for house in houses():
            found = slow_islands(slow_graph(house))
            self.assertEqual(sorted(found), sorted(spanned(house)))
            for stand, stands in found.items():
                bottom, top, low, high = told = island_of(house, stand)
                self.assertEqual(tuple, told.__class__)
                self.assertEqual((min(stands, key=len), max(stands, key=len)), (bottom, top))
                self.assertEqual((span(house, bottom)[0], span(house, top)[1]), (low, high))
                self.assertEqual((bottom == (), top == all_of(house)), (low is None, high is None))
                for other in stands:
                    self.assertTrue(set(bottom) <= set(other) <= set(top))
                    self.assertEqual(told, island_of(house, other))
                    here = ends(house, other)
                    self.assertTrue((low is None or low <= here[0]) and (high is None or here[1] <= high))
                    if low is not None:
                        self.assertEqual([bottom, top], led(house, other, [here[0], low, high])[1:])
                alone += len(stands) == 1
                wide += low is not None and len(stands) > 1
        self.assertTrue(alone > 50 and wide > 20, (alone, wide))

    def test_both_widenings_lead_to_the_same(self):
        for house in houses():
            for stand in spanned(house):
                bottom, top, _, _ = island_of(house, stand)
                for way in ("dip", "peak"):
                    told = [there for _, there in widening(house, stand, way=way)]
                    self.assertTrue(told == [] or sorted(told[-2:], key=len) == [bottom, top])
                if not widening(house, stand) and not widening(house, stand, way="peak"):
                    self.assertEqual((stand, stand), (bottom, top))

    def test_one_of_its_own(self):
        self.assertEqual([[], []], [widening(ALONE, (0,), way=way) for way in ("dip", "peak")])
        self.assertEqual(((0,), (0,), 0, 1), island_of(ALONE, (0,)))
        self.assertEqual((((), (0, 1), None, None),) * 2, leaving(ALONE, (0,)))
        self.assertEqual([0], fewest(ALONE, (0,)))
        self.assertEqual(("never", (), ()), coming(ALONE, (0,)))

    def test_leaving(self):
        left = 0
        for house in houses():
            for stand in spanned(house):
                bottom, top, low, high = island_of(house, stand)
                told = leaving(house, stand)
                self.assertEqual((tuple, 2), (told.__class__, len(told)))
                if low is None:
                    self.assertEqual((None, None), told)
                    continue
                left += 1
                below = led(house, bottom, [low, low - 1])[1]
                above = led(house, top, [high, high + 1])[1]
                self.assertEqual((island_of(house, below), island_of(house, above)), told)
                for (_, _, new_low, new_high), swell in zip(told, (low - 1, high + 1)):
                    self.assertTrue(new_low is None or new_low <= min(low, swell), told)
                    self.assertTrue(new_high is None or new_high >= max(high, swell), told)
        self.assertGreater(left, 100)

    def test_nobody_comes_back(self):
        left = 0
        for seed, house in enumerate(houses()):
            numbers = Numbers(seed)
            every = {stand: island_of(house, stand) for stand in spanned(house)}
            for stand in list(every)[::2]:
                history = [ends(house, stand)[0]] + [numbers.between(-25, 15) for _ in range(25)]
                stands = led(house, stand, history)
                for island in set(every.values()):
                    _, _, low, high = island
                    out = [place for place, swell in enumerate(history)
                           if low is not None and not low <= swell <= high]
                    if out and out[0] > 0:
                        left += 1
                        self.assertTrue(all(every[there] != island for there in stands[out[0]:]))
        self.assertGreater(left, 1000)

    def test_turned_moved_renamed(self):
        for seed, house in enumerate(houses()):
            numbers = Numbers(seed)
            order = tuple(sorted(all_of(house), key=lambda _: numbers.below(1000)))
            again, up_more, new = turned(house), moved(house, BIG), renamed(house, order)
            for stand in spanned(house):
                bottom, top, low, high = island_of(house, stand)
                sign = [None if end is None else -end for end in (high, low)]
                other = others(house, stand)
                self.assertEqual((others(house, top), others(house, bottom), *sign), island_of(again, other))
                dip, peak = deepest_dip(house, stand), highest_peak(again, other)
                self.assertEqual(dip and (-dip[0], others(house, dip[1])), peak)
                higher = [None if end is None else end + BIG for end in (low, high)]
                self.assertEqual((bottom, top, *higher), island_of(up_more, stand))
                self.assertEqual([swell + BIG for swell in fewest(house, stand)], fewest(up_more, stand))
                stands = [tuple(sorted(order.index(latch) for latch in one)) for one in (stand, bottom, top)]
                self.assertEqual((*stands[1:], low, high), island_of(new, stands[0]))
                self.assertEqual(fewest(house, stand), fewest(new, stands[0]))
                self.assertEqual(coming(house, stand), coming(new, stands[0]))
                for way in ("dip", "peak"):
                    self.assertEqual([(swell + BIG, there) for swell, there in widening(house, stand, way=way)],
                                     widening(up_more, stand, way=way))

    def test_refused(self):
        for thing in (*STRANGE, (2,), (-1,), (1, 0), [0]):
            if not (isinstance(thing, tuple) and thing == ()):
                for asked in ASKED:
                    self.refused(NoStand, {"stand": thing}, lambda: asked(HOUSE, thing))
                self.refused(NoStand, {"stand": thing}, lambda: coming_shows(HOUSE, thing, None))
        self.refused(NoSpan, {"stand": (1,)}, lambda: coming_shows(HOUSE, (1,), ("never", (), ())))
        for house in some_houses(30):
            for stand in all_stands(house):
                if span(house, stand) is None:
                    for asked in ASKED:
                        self.refused(NoSpan, {"stand": stand}, lambda: asked(house, stand))


class FewestTest(unittest.TestCase):
    def test_plain_ones(self):
        self.assertEqual([1], fewest(HOUSE, ()))
        self.assertEqual([1, 3], fewest(HOUSE, (0,)))
        self.assertEqual([1, 4], fewest(HOUSE, (0, 1)))
        self.assertEqual([-11, 9, -8, 7, -6, 5, -4, 3], fewest(NEST, (1, 3, 5, 7)))

    def test_no_history_of_fewer_turns(self):
        longest = own = 0
        for house in [*houses(), NEST]:
            graph = slow_graph(house)
            islands = slow_islands(graph)
            for bottom in {min(stands, key=len) for stands in islands.values()}:
                turns = slow_turns(graph, bottom)
                for stand in islands[bottom]:
                    told = fewest(house, stand)
                    self.assertEqual((list, turns[stand]), (told.__class__, len(told) - 1))
                    self.assertEqual(ends(house, bottom)[0], told[0])
                    stands = led(house, bottom, told)
                    self.assertEqual(stand, stands[-1])
                    self.assertTrue(all(one != two for one, two in zip(stands, stands[1:])))
                    longest = max(longest, len(told))
                    own += bottom != ()
        self.assertTrue(longest > 7 and own > 50, (longest, own))

    def test_from_the_top_one_more_or_fewer_at_most(self):
        for house in houses():
            graph = slow_graph(house)
            for stand, stands in slow_islands(graph).items():
                turns = slow_turns(graph, max(stands, key=len))
                self.assertLessEqual(abs(turns[stand] + 1 - len(fewest(house, stand))), 1)

    def test_cut_at_the_bottom(self):
        for house in houses():
            for stand in spanned(house):
                bottom, low = island_of(house, stand)[0], ends(house, island_of(house, stand)[0])[0]
                lists = []
                for way, last in (("dip", 1), ("peak", 0)):
                    widened = widening(house, stand, way=way)
                    stands = [there for _, there in widened]
                    if bottom in stands:
                        swells = [swell for swell, _ in widened[:stands.index(bottom)]]
                        lists.append([low, *reversed(swells), ends(house, stand)[last]])
                self.assertEqual([low] if stand == bottom else min(lists, key=len), fewest(house, stand))
                self.assertTrue(stand == bottom or len(lists) < 2 or len(lists[0]) != len(lists[1]))

    def test_told_anew(self):
        fewest(HOUSE, (0,)).append(None)
        self.assertEqual([1, 3], fewest(HOUSE, (0,)))


class ComingTest(unittest.TestCase):
    def test_plain_ones(self):
        self.assertEqual(("come", (1,), (), (4, 1)), coming(HOUSE, ()))
        self.assertEqual(("come", (1, 3), (1, 4), ()), coming(HOUSE, (0,)))
        self.assertEqual(("come", (1, 4), (1, 4), ()), coming(HOUSE, (0, 1)))

    def test_come_just_where_a_history_does(self):
        come = never = 0
        for house in houses():
            reach = slow_turns(slow_graph(house), ())
            for stand in spanned(house):
                told = coming(house, stand)
                lists = tuple(swells_told(widening(house, stand, way=way)) for way in ("dip", "peak"))
                if stand in reach:
                    come += 1
                    self.assertEqual(("come", tuple(fewest(house, stand)), *lists), told)
                    self.assertEqual(stand, led(house, (), list(told[1]))[-1])
                    self.assertEqual(floor(house), told[1][0])
                else:
                    never += 1
                    self.assertEqual(("never", *lists), told)
                self.assertIs(True, coming_shows(house, stand, told))
        self.assertTrue(come > 200 and never > 100, (come, never))

    def test_far_apart(self):
        house = House(((BIG, -BIG), (BIG // 2, -BIG // 2), (7, 3)), ((0, 1, 3), (2, 0, 9), (1, 2, 4)))
        for stand in spanned(house):
            told = coming(house, stand)
            self.assertTrue(coming_shows(house, stand, told))
            self.assertEqual("come", told[0])
            self.assertEqual(stand, led(house, (), list(told[1]))[-1])
        self.assertEqual((floor(house), roof(house)), coming(house, (0, 1, 2))[1])


class JudgeTest(unittest.TestCase):
    def test_one_thing_otherwise(self):
        wrong = 0
        for house in [*houses()[::2], NEST]:
            stands = spanned(house)
            papers = {stand: coming(house, stand) for stand in stands}
            for stand in stands[::7] if house == NEST else stands:
                told = papers[stand]
                for place in range(1, len(told)):
                    part = told[place]
                    for at, swell in enumerate(part):
                        for other in (swell - 1, swell + 1, floor(house) - 1, roof(house) + 1, True, str(swell)):
                            made = (*told[:place], (*part[:at], other, *part[at + 1:]), *told[place + 1:])
                            self.assertIs(made == told and other is not True, coming_shows(house, stand, made))
                            wrong += 1
                    for made_part in (part[:-1], part[1:], (*part, 0), (*part, *part), list(part), None, part[::-1]):
                        made = (*told[:place], made_part, *told[place + 1:])
                        self.assertIs(made == told, coming_shows(house, stand, made))
                for other in stands:
                    self.assertIs(papers[other] == told, coming_shows(house, stand, papers[other]))
        self.assertGreater(wrong, 2000)

    def test_words_and_lengths(self):
        come, never = coming(HOUSE, (0,)), coming(ALONE, (0,))
        self.assertIs(True, coming_shows(ALONE, (0,), never))
        for word in (*NO_WORDS, "com", "Come", ""):
            self.assertIs(False, coming_shows(HOUSE, (0,), (word, *come[1:])))
            self.assertIs(False, coming_shows(ALONE, (0,), (word, *never[1:])))
        for made in (come[:3], (*come, ()), ("never", *come[2:]), ("never", *come[1:]), list(come), ()):
            self.assertIs(False, coming_shows(HOUSE, (0,), made))
        for made in (never[:2], (*never, ()), ("come", *never[1:]), ("come", (0,), *never[1:]), list(never)):
            self.assertIs(False, coming_shows(ALONE, (0,), made))

    def test_of_anything(self):
        for thing in STRANGE:
            self.assertIs(False, coming_shows(HOUSE, (0,), thing))
            for place in range(4):
                made = list(coming(HOUSE, (0,)))
                made[place] = thing
                self.assertIs(False, coming_shows(HOUSE, (0,), tuple(made)))
        for thing in (Angry(), Yes(), None, 1.0, True):
            self.assertIs(False, coming_shows(HOUSE, (0,), ("come", (1, 3), (1, thing), (4, 1))))

    def test_what_a_widening_leaves_out(self):
        # a widening that is cut short, and one that goes on where nothing more is borne
        stand = (1, 3, 5, 7)
        word, history, dips, peaks = coming(NEST, stand)
        self.assertEqual(((-4, 5, -6, 7, -8, 9, -11, 11), ()), (dips, peaks))
        for many in range(len(dips)):
            self.assertIs(False, coming_shows(NEST, stand, ("never", dips[:many], peaks)))
            self.assertIs(False, coming_shows(NEST, stand, (word, history, dips[:many], peaks)))
        self.assertIs(False, coming_shows(NEST, stand, (word, history, (*dips, -11), peaks)))
        self.assertIs(False, coming_shows(NEST, stand, (word, history, (*dips, -12), peaks)))
        self.assertIs(False, coming_shows(NEST, stand, (word, history, dips, (4,))))

    def test_legs_of_told_histories_move_something(self):
        for house in houses()[::3]:
            for stand in spanned(house):
                told = coming(house, stand)
                if told[0] == "come":
                    there = ()
                    for start, end in zip(told[1], told[1][1:]):
                        self.assertTrue(falls(house, there, start, end))
                        there = led(house, there, [start, end])[1]


if __name__ == "__main__":
    unittest.main()
