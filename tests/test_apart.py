"""Promises [68] to [74]: two houses told apart by how many are up, and the judge of these papers."""

import unittest

from swaykeep.apart import counts, next_pair, told_apart
from swaykeep.errors import NoHistory, NoStand, NoSwell, TooMany, Unsettled
from swaykeep.falls import floor, next_move, roof
from swaykeep.houses import House
from swaykeep.judge_apart import apart_shows
from swaykeep.legs import helped_no_less, leg, led
from swaykeep.pulls import is_settled, span
from swaykeep.turning import moved, renamed
from tests.samples import (BIG, NO_WORDS, STRANGE, Angry, Numbers, Refusals, Yes, all_of, all_stands, slow_swells,
                           some_house, some_houses)

HOUSE = House(((3, 1), (5, 2)), ((0, 1, 1),))
OTHER = House(((3, 1), (5, 2)))
# one latch each: parted at the first leg, at the second one
WIDE, NARROW = House(((4, -4),)), House(((4, -2),))
# parted by a swing within a swing alone
DEEP = House(((3, -3), (3, 1), (3, -1), (-2, -3), (3, 1), (7, 3)),
             ((0, 4, 1), (0, 5, 3), (2, 1, 3), (2, 4, 2), (3, 1, 2)))
DEEPER = House(((3, -3), (3, 1), (3, -1), (-2, -3), (3, 0), (7, 3)),
               ((0, 4, 1), (0, 5, 3), (2, 1, 3), (2, 4, 1), (3, 1, 2)))


def changed_a_little(house, seed):
    """A house of which one number is otherwise."""
    numbers = Numbers(seed)
    latches = list(house.latches())
    at = numbers.below(len(latches))
    up, down = latches[at]
    latches[at] = (up + numbers.below(2), down - numbers.below(2))
    return House(tuple(latches), tuple(row for row in house.helps() if numbers.below(6)))


def some_pairs(many):
    """Houses with stands that are settled at a swell: (house, stand, other, there, swell)."""
    found = []
    for seed in range(many):
        numbers = Numbers(seed)
        house = some_house(seed, 1 + seed % 4)
        other = [changed_a_little(house, seed), renamed(house, all_of(house)[::-1]), some_house(seed + 500)][seed % 3]
        swell = numbers.between(-12, 9)
        stands, others = ([stand for stand in all_stands(one) if is_settled(one, stand, swell)]
                          for one in (house, other))
        stand = stands[numbers.below(len(stands))]
        alike = [there for there in others if len(there) == len(stand)]
        found.append((house, stand, other, (alike or others)[numbers.below(len(alike or others))], swell))
    return found


def slow_legs(house, stand, other, there, swell, most=5):
    """The fewest legs of a history that parts them, all histories tried by levels; None where none of most does."""
    swells = sorted({*slow_swells(house), *slow_swells(other), swell})
    level = {(stand, there, swell)}
    for many in range(most + 1):
        if any(len(one) != len(two) for one, two, _ in level):
            return many
        level = {(leg(house, one, at, to), leg(other, two, at, to), to)
                 for one, two, at in level for to in swells}
    return None


def is_shown(asked, paper):
    told = apart_shows(*asked, paper)
    assert told is True or told is False
    return told


class CountsTest(Refusals, unittest.TestCase):
    def test_one_for_each_swell(self):
        self.assertEqual([0, 1, 1, 2, 0], counts(HOUSE, (), [0, 3, 2, 5, 1]))
        self.assertEqual([0], counts(HOUSE, (), [0]))
        for seed, house in enumerate(some_houses(20)):
            numbers = Numbers(seed)
            history = [floor(house)] + [numbers.between(-25, 15) for _ in range(20)]
            self.assertEqual([len(stand) for stand in led(house, (), history)], counts(house, (), history))
        great = some_house(5, 14, 60)
        self.assertEqual([0, 14, 0], counts(great, (), [-BIG, BIG, -BIG]))

    def test_refused_as_led(self):
        for thing in (*STRANGE, (2,), (1, 0), [0]):
            if not (isinstance(thing, tuple) and thing == ()):
                self.refused(NoStand, {"stand": thing}, lambda: counts(HOUSE, thing, [True]))
        self.refused(NoHistory, {"place": 0}, lambda: counts(HOUSE, (), []))
        self.refused(NoHistory, {"place": 1}, lambda: counts(HOUSE, (), [9, None, True]))
        self.refused(Unsettled, {"latch": 0, "swell": 9}, lambda: counts(HOUSE, (), [9, 0]))


class NextPairTest(Refusals, unittest.TestCase):
    def test_plain_ones(self):
        self.assertEqual((4, (0,), (0,)), next_pair(WIDE, (), NARROW, ()))
        self.assertEqual((-2, (0,), ()), next_pair(WIDE, (0,), NARROW, (0,), up=False))
        self.assertEqual((-2, (), (0,)), next_pair(NARROW, (0,), WIDE, (0,), up=False))
        self.assertEqual((-4, (), ()), next_pair(WIDE, (0,), NARROW, (), up=False))
        self.assertIsNone(next_pair(WIDE, (0,), NARROW, (0,)))
        self.assertIsNone(next_pair(WIDE, (), NARROW, (), up=False))
        self.assertRaises(TypeError, next_pair, WIDE, (), NARROW, (), True)

    def test_both_led_to_the_nearest_next_move(self):
        moves = 0
        for house, stand, other, there, swell in some_pairs(200):
            for up in (True, False):
                moves_on = next_move(house, stand, swell, up=up), next_move(other, there, swell, up=up)
                found = [move[0] for move in moves_on if move is not None]
                told = next_pair(house, stand, other, there, up=up)
                if not found:
                    self.assertIsNone(told)
                    continue
                moves += 1
                at = min(found) if up else max(found)
                self.assertEqual((at, leg(house, stand, swell, at), leg(other, there, swell, at)), told)
                self.assertEqual(tuple, told.__class__)
        self.assertGreater(moves, 200)

    def test_great_and_far(self):
        house = House(tuple((100 * k, 100 * k - 50) for k in range(14)), ((0, 13, 9),))
        self.assertEqual((0, (0,), (0,)), next_pair(house, (), moved(house, 0), ()))
        self.assertEqual((0, (0,), ()), next_pair(house, (), moved(house, BIG), ()))
        self.assertEqual((1300 + BIG - 59, all_of(house), all_of(house)[:-1]),
                         next_pair(house, all_of(house), moved(house, BIG), all_of(house), up=False))

    def test_refused(self):
        for thing in (*STRANGE, (2,), (1, 0), [0]):
            if not (isinstance(thing, tuple) and thing == ()):
                self.refused(NoStand, {"stand": thing}, lambda: next_pair(HOUSE, thing, WIDE, (7,)))
                self.refused(NoStand, {"stand": thing}, lambda: next_pair(HOUSE, (), OTHER, thing, up=False))


class ToldApartTest(Refusals, unittest.TestCase):
    def test_plain_ones(self):
        self.assertEqual(("alike", [((), ()), ((0,), (0,))]), told_apart(WIDE, (), WIDE, (), 0))
        self.assertEqual(("apart", [0, 4, -2], [[("up", (0,), (0,))]]), told_apart(WIDE, (), NARROW, (), 0))
        self.assertEqual(("apart", [0, -2], []), told_apart(WIDE, (0,), NARROW, (0,), 0))
        self.assertEqual(("apart", [0], []), told_apart(WIDE, (0,), NARROW, (), 0))

    def test_beside_all_histories(self):
        kinds = {}
        for asked in some_pairs(240):
            told = told_apart(*asked)
            legs = slow_legs(*asked)
            self.assertIs(tuple, told.__class__)
            if told[0] == "alike":
                self.assertIsNone(legs)
                kinds["alike"] = kinds.get("alike", 0) + 1
            else:
                self.assertTrue(legs == len(told[1]) - 1 or legs is None and len(told[1]) > 6, asked)
                kinds[legs] = kinds.get(legs, 0) + 1
            self.assertTrue(is_shown(asked, told))
        self.assertTrue(kinds["alike"] > 40 and kinds[1] > 20 and kinds[2] > 5 and kinds[0] > 0, kinds)

    def test_the_history(self):
        for asked in [*some_pairs(150), (DEEP, (), DEEPER, (), -4)]:
            told = told_apart(*asked)
            if told[0] == "alike":
                continue
            house, stand, other, there, swell = asked
            history = told[1]
            self.assertEqual((list, swell), (history.__class__, history[0]))
            one, two = counts(house, stand, history), counts(other, there, history)
            self.assertEqual(one[:-1], two[:-1])
            self.assertNotEqual(one[-1], two[-1])
            for low, at, high in zip(history, history[1:], history[2:]):
                self.assertTrue(low < at > high or low > at < high)
            for at, (start, end) in enumerate(zip(history, history[1:])):
                ahead = end - 1 if end > start else end + 1
                here, beside = led(house, stand, history[:at + 1])[-1], led(other, there, history[:at + 1])[-1]
                near = leg(house, here, start, ahead), leg(other, beside, start, ahead)
                self.assertNotEqual(near, (leg(house, here, start, end), leg(other, beside, start, end)))
                # so unlike many are shown first at the end of the last leg
                self.assertEqual(len(near[0]), len(near[1]))

    def test_deep_ones(self):
        told = told_apart(DEEP, (), DEEPER, (), -4)
        self.assertEqual((5, 3), (len(told[1]), len(told[2])))
        self.assertEqual(4, slow_legs(DEEP, (), DEEPER, (), -4))
        self.assertTrue(is_shown((DEEP, (), DEEPER, (), -4), told))

    def test_the_layers(self):
        deep = 0
        for asked in [*some_pairs(200), (DEEP, (), DEEPER, (), -4)]:
            house, stand, other, there, swell = asked
            told = told_apart(*asked)
            if told[0] == "alike":
                continue
            layers = told[2]
            self.assertEqual(max(0, len(told[1]) - 2), len(layers))
            begun = {("up", stand, there), ("down", stand, there)}
            for layer in layers:
                deep += 1
                found = set()
                for way, one, two in begun:
                    step = next_pair(house, one, other, two, up=way == "up")
                    while step is not None:
                        found.add((way, *step[1:]))
                        step = next_pair(house, step[1], other, step[2], up=way == "up")
                self.assertEqual(sorted(found), layer)
                begun = {("down" if way == "up" else "up", one, two) for way, one, two in found}
        self.assertGreater(deep, 10)

    def test_the_table(self):
        for asked in some_pairs(150):
            house, stand, other, there, swell = asked
            told = told_apart(*asked)
            if told[0] == "alike":
                found = {(stand, there)}
                waiting = [(stand, there)]
                while waiting:
                    one, two = waiting.pop()
                    for up in (True, False):
                        step = next_pair(house, one, other, two, up=up)
                        if step is not None and step[1:] not in found:
                            found.add(step[1:])
                            waiting.append(step[1:])
                self.assertEqual(("alike", sorted(found)), told)
                self.assertEqual(2, len(told))

    def test_the_other_order(self):
        for house, stand, other, there, swell in [*some_pairs(150), (DEEP, (), DEEPER, (), -4)]:
            told = told_apart(house, stand, other, there, swell)
            turned_about = told_apart(other, there, house, stand, swell)
            self.assertEqual(told[0], turned_about[0])
            if told[0] == "alike":
                self.assertEqual(sorted((two, one) for one, two in told[1]), turned_about[1])
            else:
                self.assertEqual(len(told[1]), len(turned_about[1]))
                self.assertEqual([sorted((way, two, one) for way, one, two in layer) for layer in told[2]],
                                 turned_about[2])

    def test_renamed_are_never_parted(self):
        for seed, house in enumerate([*some_houses(40), some_house(7, 8, 9)]):
            numbers = Numbers(seed)
            order = tuple(sorted(all_of(house), key=lambda _: numbers.below(1000)))
            other = renamed(house, order)
            for stand in all_stands(house)[::3]:
                if span(house, stand) is not None:
                    low, high = span(house, stand)
                    there = tuple(sorted(order.index(latch) for latch in stand))
                    told = told_apart(house, stand, other, there, high if low is None else low)
                    self.assertEqual("alike", told[0])
                    self.assertIn((stand, there), told[1])

    def test_helped_no_less_shows_more(self):
        parted = 0
        for seed, house in enumerate(some_houses(120)):
            numbers = Numbers(seed)
            latches = tuple((up - numbers.below(2), down - numbers.below(2)) for up, down in house.latches())
            helps = tuple((one, other, min(9, many + numbers.below(2))) for one, other, many in house.helps())
            if any(down >= up for up, down in latches):
                continue
            other = House(latches, helps)
            self.assertTrue(helped_no_less(house, other))
            swell = min(floor(house), floor(other))
            told = told_apart(house, (), other, (), swell)
            if told[0] == "apart":
                parted += 1
                self.assertLess(counts(house, (), told[1])[-1], counts(other, (), told[1])[-1])
        self.assertGreater(parted, 50)

    def test_far_apart(self):
        house = House(((BIG, -BIG), (BIG // 2, -BIG // 2), (7, 3)), ((0, 1, 3), (2, 0, 9), (1, 2, 4)))
        other = House(((BIG, -BIG), (BIG // 2, -BIG // 2), (7, 2)), ((0, 1, 3), (2, 0, 9), (1, 2, 4)))
        told = told_apart(house, (), other, (), -BIG)
        self.assertTrue(is_shown((house, (), other, (), -BIG), told))
        self.assertEqual(("apart", [-BIG, 7, 3]), told[:2])
        self.assertEqual("alike", told_apart(house, (), house, (), 0)[0])

    def test_told_anew(self):
        told = told_apart(WIDE, (), NARROW, (), 0)
        told[1].append(None)
        told[2][0].append(None)
        told[2].append(None)
        told_apart(WIDE, (), WIDE, (), 0)[1].clear()
        self.assertEqual(("apart", [0, 4, -2], [[("up", (0,), (0,))]]), told_apart(WIDE, (), NARROW, (), 0))
        self.assertEqual(("alike", [((), ()), ((0,), (0,))]), told_apart(WIDE, (), WIDE, (), 0))

    def test_refused_in_order(self):
        nine = some_house(3, 9, 5)
        for one, two in ((nine, WIDE), (WIDE, nine), (nine, nine)):
            self.refused(TooMany, {"limit": 8}, lambda: told_apart(one, None, two, None, None))
        for thing in (*STRANGE, (2,), (1, 0)):
            if not (isinstance(thing, tuple) and thing == ()):
                self.refused(NoStand, {"stand": thing}, lambda: told_apart(HOUSE, thing, WIDE, (9,), None))
                self.refused(NoStand, {"stand": thing}, lambda: told_apart(HOUSE, (), OTHER, thing, None))
            if thing.__class__ is not int:
                self.refused(NoSwell, {"swell": thing}, lambda: told_apart(HOUSE, (1,), OTHER, (), thing))
        self.refused(Unsettled, {"latch": 0, "swell": 9}, lambda: told_apart(HOUSE, (1,), WIDE, (), 9))
        self.refused(Unsettled, {"latch": 1, "swell": 0}, lambda: told_apart(HOUSE, (1,), WIDE, (), 0))
        self.refused(Unsettled, {"latch": 0, "swell": 9}, lambda: told_apart(HOUSE, (0, 1), WIDE, (), 9))


class JudgeTest(Refusals, unittest.TestCase):
    def test_a_table_with_more_and_in_another_order(self):
        asked = (HOUSE, (), HOUSE, (), 0)
        word, table = told_apart(*asked)
        self.assertEqual("alike", word)
        self.assertTrue(is_shown(asked, (word, table[::-1])))
        self.assertTrue(is_shown(asked, (word, table + table)))
        # the pairs of another beginning beside them
        twin = House(((4, -1), (9, 2)), ((0, 1, 7), (1, 0, 9)))
        asked = (twin, (), twin, (), -5)
        word, table = told_apart(*asked)
        self.assertNotIn(((0,), (0,)), table)
        self.assertTrue(is_shown(asked, (word, [((0,), (0,)), *table])))
        self.assertFalse(is_shown(asked, (word, [((0,), (0, 1)), *table])))
        self.assertFalse(is_shown(asked, (word, [((1,), (1,)), *table])))

    def test_a_table_with_one_thing_otherwise(self):
        for asked in some_pairs(150):
            word, *told = told_apart(*asked)
            if word != "alike":
                continue
            table = told[0]
            self.assertTrue(is_shown(asked, (word, table)))
            for at in range(len(table)):
                self.assertFalse(is_shown(asked, (word, table[:at] + table[at + 1:])))
                one, two = table[at]
                for wrong in ((one, two, one), (one,), [one, two], (one, None), (None, two), (list(one), two),
                              (one, (*two, 9)), ((*one, 0), two), Angry(), Yes(), (Yes(), two)):
                    self.assertFalse(is_shown(asked, (word, table + [wrong])))
                    self.assertFalse(is_shown(asked, (word, [*table[:at], wrong, *table[at + 1:]])))
            for wrong in (tuple(table), None, {}, table[0]):
                self.assertFalse(is_shown(asked, (word, wrong)))
            self.assertFalse(is_shown(asked, ("apart", [asked[4]], [])))

    def test_pairs_that_share_no_swell(self):
        # as many are up, but where the one is settled the other one isn't
        one, two = House(((4, 3), (9, 8))), House(((4, 3), (9, 8)))
        asked = (one, (), two, (), 0)
        word, table = told_apart(*asked)
        self.assertTrue(is_shown(asked, (word, table)))
        far = House(((BIG, BIG - 1), (BIG, BIG - 1)))
        asked = (one, (), far, (), 0)
        self.assertEqual("apart", told_apart(*asked)[0])
        self.assertFalse(is_shown(asked, ("alike", [((), ()), ((0,), (0,)), ((0, 1), (0, 1))])))

    def test_pairs_that_share_one_swell(self):
        # (0,) is settled at 1 alone
        house = House(((1, 0), (2, 1)))
        self.assertEqual((1, 1), span(house, (0,)))
        asked = (house, (), house, (), 0)
        word, table = told_apart(*asked)
        self.assertIn(((0,), (0,)), table)
        self.assertTrue(is_shown(asked, (word, table)))
        self.assertTrue(is_shown((house, (0,), house, (0,), 1), (word, table)))

    def test_layers_with_more_and_in_another_order(self):
        for asked in [*some_pairs(200), (DEEP, (), DEEPER, (), -4)]:
            word, *told = told_apart(*asked)
            if word == "apart" and told[1]:
                history, layers = told
                self.assertTrue(is_shown(asked, (word, history, [layer[::-1] for layer in layers])))
                self.assertTrue(is_shown(asked, (word, history, [layer + layer for layer in layers])))

    def test_more_in_a_layer(self):
        asked = (WIDE, (), NARROW, (), 0)
        word, history, layers = told_apart(*asked)
        self.assertEqual([[("up", (0,), (0,))]], layers)
        for row, holds in ((("up", (), ()), True), (("down", (), ()), True), (("down", (0,), (0,)), False),
                           (("up", (0,), ()), False), (("up", (1,), (1,)), False)):
            self.assertIs(holds, is_shown(asked, (word, history, [[row, *layers[0]]])), row)
        # of stands that are settled nowhere no next pair is told
        torn, more = House(((3, 1), (5, 2)), ((0, 1, 1),)), House(((3, 0), (5, 2)), ((0, 1, 1),))
        asked = (torn, (), more, (), 0)
        word, history, layers = told_apart(*asked)
        self.assertTrue(is_shown(asked, (word, history, layers)))
        self.assertEqual(1, len(layers))
        self.assertFalse(is_shown(asked, (word, history, [[("up", (1,), (1,)), *layers[0]]])))

    def test_a_history_with_one_thing_otherwise(self):
        wrong = 0
        for asked in [*some_pairs(200), (DEEP, (), DEEPER, (), -4)]:
            word, *told = told_apart(*asked)
            if word != "apart":
                continue
            history, layers = told
            house, stand, other, there, swell = asked
            self.assertTrue(is_shown(asked, (word, history, layers)))
            for at, here in enumerate(history):
                for new in (here - 1, here + 1, here + 40, here - 40):
                    made = [*history[:at], new, *history[at + 1:]]
                    parts = made[0] == swell and counts(house, stand, made)[-1] != counts(other, there, made)[-1]
                    self.assertIs(parts, is_shown(asked, (word, made, layers)))
                    wrong += not parts
                for new in (True, None, str(here), float(here), Yes()):
                    self.assertFalse(is_shown(asked, (word, [*history[:at], new, *history[at + 1:]], layers)))
            for made in (history[:-1], history[1:], [*history, history[-1]], [swell, *history], tuple(history), [],
                         None):
                self.assertFalse(is_shown(asked, (word, made, layers)), (asked, made))
            # one layer more or fewer
            self.assertFalse(is_shown(asked, (word, history, [*layers, []])))
            self.assertFalse(layers and is_shown(asked, (word, history, layers[:-1])))
        self.assertGreater(wrong, 150)

    def test_longer_histories_do_not_show_it(self):
        # with as many layers as legs but the last: some layer would hold a pair that is unlike, or lack one
        longer = ("apart", [0, 4, 5, -2], [[("up", (0,), (0,))], [("down", (0,), ()), ("down", (), ())]])
        self.assertFalse(is_shown((WIDE, (), NARROW, (), 0), longer))
        self.assertFalse(is_shown((WIDE, (), NARROW, (), 0), ("apart", [0, 4, 5, -2], [[("up", (0,), (0,))], []])))
        self.assertFalse(is_shown((WIDE, (0,), NARROW, (), 0), ("apart", [0, -9, 9, -2], [[], []])))
        self.assertFalse(is_shown((WIDE, (0,), NARROW, (), 0), ("apart", [0, 3], [])))
        self.assertTrue(is_shown((WIDE, (0,), NARROW, (), 0), ("apart", [0], [])))

    def test_a_layer_with_one_thing_otherwise(self):
        lacking = 0
        for asked in [*some_pairs(240), (DEEP, (), DEEPER, (), -4)]:
            word, *told = told_apart(*asked)
            if word != "apart" or not told[1]:
                continue
            history, layers = told
            for at, layer in enumerate(layers):
                for place, (way, one, two) in enumerate(layer):
                    lacking += 1
                    left = layer[:place] + layer[place + 1:]
                    self.assertFalse(is_shown(asked, (word, history, [*layers[:at], left, *layers[at + 1:]])))
                    for wrong in (("side", one, two), (way, one), (way, one, two, 0), [way, one, two], (way, one, None),
                                  (way, (*one, 9), two), (way, one, list(two)), (True, one, two), Angry(), Yes(),
                                  (Yes(), one, two), (Angry(), one, two)):
                        made = [*layers[:at], [*layer, wrong], *layers[at + 1:]]
                        self.assertFalse(is_shown(asked, (word, history, made)))
                for wrong in (tuple(layer), None, {}):
                    self.assertFalse(is_shown(asked, (word, history, [*layers[:at], wrong, *layers[at + 1:]])))
            for wrong in (tuple(layers), None, {}):
                self.assertFalse(is_shown(asked, (word, history, wrong)))
        self.assertGreater(lacking, 40)

    def test_of_both_kinds_one_alone_holds(self):
        for asked in some_pairs(120):
            told = told_apart(*asked)
            house, stand, other, there, swell = asked
            every = [(one, two) for one in all_stands(house) for two in all_stands(other) if len(one) == len(two)]
            self.assertIs(told[0] == "alike" and is_shown(asked, ("alike", every)), is_shown(asked, ("alike", every)))
            for to in slow_swells(house):
                parts = leg(house, stand, swell, to), leg(other, there, swell, to)
                self.assertIs(len(stand) == len(there) and len(parts[0]) != len(parts[1]),
                              is_shown(asked, ("apart", [swell, to], [])))

    def test_of_anything(self):
        asked = (HOUSE, (), HOUSE, (), 0)
        for thing in STRANGE:
            self.assertFalse(is_shown(asked, thing))
            self.assertFalse(is_shown(asked, ("alike", thing)))
            self.assertFalse(is_shown(asked, ("apart", thing, [])))
            self.assertFalse(is_shown((WIDE, (), NARROW, (), 0), ("apart", [0, 4, -2], thing)))
            self.assertFalse(is_shown((WIDE, (), NARROW, (), 0), ("apart", [0, 4, -2], [thing])))
        table = told_apart(*asked)[1]
        for word in (*NO_WORDS, "Alike", "Apart", "apar", ""):
            self.assertFalse(is_shown(asked, (word, table)))
            self.assertFalse(is_shown((WIDE, (0,), NARROW, (0,), 0), (word, [0, -2], [])))
        self.assertFalse(is_shown(asked, ("apart", table)))
        self.assertFalse(is_shown((WIDE, (0,), NARROW, (0,), 0), ("alike", [0, -2], [])))
        for made in (("alike",), ("alike", table, []), ["alike", table], ("alike", table, table)):
            self.assertFalse(is_shown(asked, made))

    def test_of_great_houses(self):
        house = some_house(4, 14, 50)
        other = renamed(house, all_of(house)[::-1])
        swell = floor(house)
        pairs = [((), ())]
        table = list(pairs)
        while pairs:
            one, two = pairs.pop()
            for up in (True, False):
                step = next_pair(house, one, other, two, up=up)
                if step is not None and step[1:] not in table:
                    table.append(step[1:])
                    pairs.append(step[1:])
        asked = (house, (), other, (), swell)
        self.assertTrue(is_shown(asked, ("alike", table)))
        self.assertFalse(is_shown(asked, ("alike", table[:-1])))
        more = moved(house, 1)
        self.assertTrue(is_shown((house, (), more, (), swell), ("apart", [swell, roof(house)], [])))
        self.assertFalse(is_shown((house, (), more, (), swell), ("apart", [swell, roof(house) + 1], [])))

    def test_refused_and_not_settled(self):
        paper = told_apart(HOUSE, (), OTHER, (), 0)
        for thing in (*STRANGE, (2,), (1, 0)):
            if not (isinstance(thing, tuple) and thing == ()):
                self.refused(NoStand, {"stand": thing}, lambda: apart_shows(HOUSE, thing, OTHER, (9,), None, paper))
                self.refused(NoStand, {"stand": thing}, lambda: apart_shows(HOUSE, (), OTHER, thing, None, paper))
            if thing.__class__ is not int:
                self.refused(NoSwell, {"swell": thing}, lambda: apart_shows(HOUSE, (1,), OTHER, (), thing, paper))
        alike = told_apart(WIDE, (), WIDE, (), 0)
        self.assertTrue(is_shown((WIDE, (), WIDE, (), 0), alike))
        self.assertFalse(is_shown((WIDE, (), WIDE, (), 9), alike))
        far = House(((20, -20),))
        for swell, shown in ((0, True), (-9, False), (9, True)):
            self.assertIs(shown, is_shown((WIDE, (0,), far, (), swell), ("apart", [swell], [])))
            self.assertIs(shown, is_shown((far, (), WIDE, (0,), swell), ("apart", [swell], [])))


if __name__ == "__main__":
    unittest.main()
