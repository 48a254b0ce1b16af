"""Promises [2], [3] and [4] over the whole program."""

import copy
import unittest

from swaykeep import errors
from swaykeep.apart import counts, next_pair, told_apart
from swaykeep.bench import Bench
from swaykeep.comings import coming, fewest, island_of, leaving
from swaykeep.dips import deepest_dip, ends, highest_peak, widening
from swaykeep.falls import branch, fall_paper, falls, floor, going, going_paper, next_move, roof, rounds
from swaykeep.houses import House
from swaykeep.htexts import read_house, read_stand, show_house
from swaykeep.judge_apart import apart_shows
from swaykeep.judge_comings import coming_shows
from swaykeep.judge_falls import fall_holds, going_holds
from swaykeep.judge_like import like_holds
from swaykeep.judge_residues import parting_shows, residue_shows
from swaykeep.judge_settled import settling_shows
from swaykeep.judge_swings import swing_holds
from swaykeep.judge_torn import torn_shows
from swaykeep.keepers import Keeper
from swaykeep.ktexts import read_keeper, show_keeper
from swaykeep.least import bare
from swaykeep.ledger import Ledger, ledger
from swaykeep.legs import bears, leg, led, passing, there_and_back
from swaykeep.legthings import Leg
from swaykeep.likeness import like
from swaykeep.mends import kind_of_mend, mended
from swaykeep.orders import read_order, show_order
from swaykeep.plain import heap_of, plain_house
from swaykeep.pulls import help_in, pull, span, torn, wants
from swaykeep.reach import islands, reached
from swaykeep.residues import parting, residue, taking_out, turns, waist
from swaykeep.rises import closed_swings, counted, first_rise, rises
from swaykeep.settling import (climb_paper, climb_row, climb_waves, joined, met, settled_at, sink_paper, sink_row,
                               sink_waves)
from swaykeep.swings import area, branches, goings, latch_turns, loss, swing_paper, work
from swaykeep.turning import moved, others, renamed, turned
from tests.samples import (BIG, Numbers, Refusals, all_of, all_stands, orders, slow_graph, slow_row, slow_turns,
                           some_history, some_house, some_houses)

HOUSE = House(((3, 1), (5, 2), (4, -2)), ((0, 1, 1), (2, 0, 1)))
PLAIN = House(((3, 1), (5, 2), (4, -2)))
UNLIKE = House(((3, 0), (14, 3)), ((0, 1, 9), (1, 0, 2)))
ROWS = ["house a latch 3 1;latch 5 2;help 0 1 1;", "keep k a 0 -", "tally l a 0 -", "to k 4", "lead l 9"]
LOW, HIGH = floor(HOUSE), roof(HOUSE)
HISTORY = [LOW, HIGH, 1, 3, LOW]


def keeper_of():
    keeper = Keeper(HOUSE, LOW)
    keeper.through([HIGH, 1, 3])
    keeper.mark("here")
    return keeper


def ledger_of():
    told = Ledger(HOUSE, (), LOW)
    told.through([HIGH, 1, 3, 1, 3], times=7)
    return told


def bench_of():
    bench = Bench()
    bench.sit(ROWS)
    return bench


# one of all that tell a list, or something in which a list stands, and of all that a history is handed to
ASKED = (
    HOUSE.latches, HOUSE.helps, lambda: wants(HOUSE, (), 4), lambda: climb_row(HOUSE, (), HIGH),
    lambda: sink_row(HOUSE, (0, 1, 2), LOW), lambda: climb_waves(HOUSE, (), HIGH),
    lambda: sink_waves(HOUSE, (0, 1, 2), LOW), lambda: climb_paper(HOUSE, (), HIGH),
    lambda: sink_paper(HOUSE, (0, 1, 2), LOW), lambda: settled_at(HOUSE, 2), lambda: led(HOUSE, (), HISTORY),
    lambda: falls(HOUSE, (), LOW, HIGH), lambda: rounds(HOUSE, (), HIGH), lambda: branch(HOUSE, (), LOW),
    lambda: fall_paper(HOUSE, (), 3), lambda: going_paper(HOUSE, (), LOW, 1), lambda: next_move(HOUSE, (), LOW),
    lambda: Leg(HOUSE, (), LOW, HIGH).its_falls(), lambda: Leg(HOUSE, (), LOW, HIGH).went(), lambda: turns(HISTORY),
    lambda: residue(HISTORY), lambda: residue(HISTORY, ahead="below"), lambda: waist(HISTORY),
    lambda: taking_out(HISTORY), lambda: parting(HISTORY, HISTORY[:2]), lambda: bare(HOUSE, (), HISTORY),
    lambda: keeper_of().residue(), lambda: keeper_of().marks(), lambda: keeper_of().base(),
    lambda: goings(HOUSE, (), HISTORY), lambda: work(goings(HOUSE, (), HISTORY)),
    lambda: latch_turns(HOUSE, (), LOW, HIGH), lambda: branches(HOUSE, (), LOW, HIGH),
    lambda: swing_paper(HOUSE, (), LOW, HIGH), lambda: ledger(HOUSE, (), HISTORY), lambda: ledger_of().rest(),
    lambda: ledger_of().rows(), lambda: ledger_of().to(HIGH), lambda: ends(HOUSE, (0,)),
    lambda: deepest_dip(HOUSE, (0,)), lambda: highest_peak(HOUSE, ()), lambda: widening(HOUSE, (0,)),
    lambda: widening(HOUSE, (), way="peak"), lambda: island_of(HOUSE, (0,)), lambda: leaving(HOUSE, (0,)),
    lambda: fewest(HOUSE, (0,)), lambda: coming(HOUSE, (0,)), lambda: reached(HOUSE), lambda: islands(HOUSE),
    lambda: counts(HOUSE, (), HISTORY), lambda: next_pair(HOUSE, (), PLAIN, ()),
    lambda: told_apart(HOUSE, (), PLAIN, (), LOW), lambda: told_apart(HOUSE, (), HOUSE, (), LOW),
    lambda: heap_of(PLAIN), lambda: closed_swings(HOUSE, LOW, HIGH), lambda: rises(PLAIN),
    lambda: counted(PLAIN, HISTORY), lambda: like(PLAIN), lambda: like(UNLIKE),
    lambda: read_order("through k 2 1,2"), lambda: bench_of().log(), lambda: bench_of().named(),
    lambda: bench_of().sit(["text a", "span a -"]))

# for each class of refusals some that are due, with their fields
REFUSED = (
    ("NoHouse", {"what": "latch", "number": 1}, lambda: House(((3, 1), (1, 3)))),
    ("NoLatch", {"latch": 3}, lambda: HOUSE.up_at(3)), ("NoLatch", {"latch": "0"}, lambda: help_in(HOUSE, (), "0")),
    ("NoStand", {"stand": (3,)}, lambda: island_of(HOUSE, (3,))),
    ("NoStand", {"stand": [0]}, lambda: told_apart(HOUSE, [0], HOUSE, (), 0)),
    ("NoSwell", {"swell": True}, lambda: first_rise(HOUSE, True, 3)),
    ("NoSwell", {"swell": None}, lambda: pull(HOUSE, (), 0, None)),
    ("NoOrder", {"order": (0, 0, 1)}, lambda: renamed(HOUSE, (0, 0, 1))),
    ("NoText", {"at": 2}, lambda: read_house("latch 3 1\nlatch")), ("NoText", {"at": 1}, lambda: read_stand("1 0")),
    ("NoText", {"at": 6}, lambda: read_keeper(show_house(HOUSE))),
    ("Unsettled", {"latch": 0, "swell": 9}, lambda: leg(HOUSE, (), 9, 0)),
    ("TooMany", {"limit": 10}, lambda: settled_at(some_house(1, 11), 0)),
    ("TooMany", {"limit": 8}, lambda: islands(some_house(1, 9))),
    ("TooMany", {"limit": 1}, lambda: reached(HOUSE, most=1)),
    ("TooMany", {"limit": 100}, lambda: like(House(((BIG, 0),)))),
    ("TooMany", {"limit": 1000}, lambda: branches(House(((BIG, 0),)), (), 0, BIG)),
    ("NoHistory", {"place": 1}, lambda: counted(PLAIN, [0, None])),
    ("NoHistory", {"place": 0}, lambda: counted(UNLIKE, [])),
    ("NoHistory", {"place": 0}, lambda: counts(HOUSE, (), [])),
    ("NoFall", {"swell": LOW}, lambda: fall_paper(HOUSE, (), LOW)),
    ("NoJoin", {"what": "swell"}, lambda: Leg(HOUSE, (), LOW, HIGH).joined_with(Leg(HOUSE, (), LOW, HIGH))),
    ("NoMark", {"name": "there"}, lambda: keeper_of().back("there")),
    ("NoMend", {"what": "many", "number": 2}, lambda: kind_of_mend(HOUSE, UNLIKE)),
    ("NoMend", {"what": "both", "number": 0}, lambda: mended(House(((3, 1), (5, 2))), House(((4, 1), (4, 2))), 0, ())),
    ("NotClosed", {"near": 2, "far": -9}, lambda: loss(House(((3, 1), (5, 0))), (0,), 2, -9)),
    ("NoSpan", {"stand": (1,)}, lambda: coming(House(((3, 1), (5, 2)), ((0, 1, 1),)), (1,))),
    ("NoHeap", {}, lambda: plain_house([(1, 3, 1)])), ("NoHeap", {}, lambda: heap_of(HOUSE)),
    ("NotAlike", {"low": -1, "high": 3}, lambda: rises(UNLIKE)), ("NoRow", {"at": 2}, lambda: read_order("to k x")),
    ("NoName", {"name": "x"}, lambda: bench_of().say("text x")),
    ("NoSession", {"at": 1, "why": "NoName"}, lambda: bench_of().sit(["text a", "text x"])))


def changed_all_through(thing):
    """Change each list and dict that stands in a thing, the innermost ones first."""
    if isinstance(thing, (list, tuple)):
        for part in list(thing):
            changed_all_through(part)
    if isinstance(thing, list):
        thing.append("changed")
        thing.reverse()


class AskersOwnTest(unittest.TestCase):
    def test_what_is_told_is_the_askers_own_and_told_alike_again(self):
        ahead = repr(vars(HOUSE))
        for asked in ASKED:
            told = asked()
            kept = copy.deepcopy(told)
            changed_all_through(told)
            self.assertEqual(kept, asked())
            self.assertEqual(repr(kept), repr(asked()))
        self.assertEqual([LOW, HIGH, 1, 3, LOW], HISTORY)
        self.assertEqual(ahead, repr(vars(HOUSE)))

    def test_what_is_told_of_things_that_last(self):
        keeper, told, bench = keeper_of(), ledger_of(), bench_of()
        for asked in (keeper.residue, keeper.marks, told.rest, told.rows, bench.log, bench.named):
            kept = copy.deepcopy(asked())
            mine = asked()
            changed_all_through(mine)
            self.assertEqual(kept, asked())
        mine = keeper.residue()
        keeper.to(HIGH + 5)
        self.assertEqual(keeper_of().residue(), mine)
        mine = told.rows()
        told.through([LOW, HIGH, LOW], times=3)
        self.assertEqual(ledger_of().rows(), mine)

    def test_what_is_handed_in_is_not_kept(self):
        history = [HIGH, 1, 3]
        keeper = Keeper(HOUSE, LOW)
        told = Ledger(HOUSE, (), LOW)
        keeper.through(history)
        told.through(history)
        kept = keeper.residue(), told.rest(), told.rows()
        history.clear()
        self.assertEqual(kept, (keeper.residue(), told.rest(), told.rows()))
        rows = list(ROWS)
        bench = Bench()
        bench.sit(rows)
        rows.reverse()
        self.assertEqual(ROWS, bench.log())
        again = bench.said_again(rows[::-1])
        rows.clear()
        self.assertEqual(ROWS, again.log())
        heap = [(3, 1, 1), (5, 2, 2)]
        house = plain_house(heap)
        heap[0] = None
        self.assertEqual(((3, 1), (5, 2), (5, 2)), house.latches())

    def test_papers_and_histories_that_are_handed_in_stay(self):
        judged = (
            (lambda paper: apart_shows(HOUSE, (), PLAIN, (), LOW, paper), told_apart(HOUSE, (), PLAIN, (), LOW)),
            (lambda paper: apart_shows(HOUSE, (), HOUSE, (), LOW, paper), told_apart(HOUSE, (), HOUSE, (), LOW)),
            (lambda paper: coming_shows(HOUSE, (0,), paper), coming(HOUSE, (0,))),
            (lambda paper: like_holds(PLAIN, paper), like(PLAIN)),
            (lambda paper: like_holds(UNLIKE, paper), like(UNLIKE)),
            (lambda paper: swing_holds(HOUSE, (), LOW, HIGH, paper), swing_paper(HOUSE, (), LOW, HIGH)),
            (lambda paper: fall_holds(HOUSE, paper), fall_paper(HOUSE, (), 3)),
            (lambda paper: going_holds(HOUSE, (), LOW, paper), going_paper(HOUSE, (), LOW, 1)),
            (lambda paper: settling_shows(HOUSE, (), HIGH, (0, 1, 2), paper), climb_paper(HOUSE, (), HIGH)),
            (lambda paper: residue_shows(HISTORY, paper, residue(HISTORY)), taking_out(HISTORY)))
        for judge, paper in judged:
            kept = copy.deepcopy(paper)
            self.assertIs(True, judge(paper))
            self.assertIs(True, judge(paper))
            self.assertEqual(repr(kept), repr(paper))
        self.assertIs(True, parting_shows(HISTORY, HISTORY[:2], parting(HISTORY, HISTORY[:2])))
        low = House(((3, 1), (5, 2)), ((0, 1, 1),))
        self.assertIs(True, torn_shows(low, (1,), torn(low, (1,))))


class RefusalsTest(Refusals, unittest.TestCase):
    def test_each_class_with_its_fields(self):
        for name, fields, asked in REFUSED:
            self.refused(getattr(errors, name), fields, asked)
        named = {name for name, thing in vars(errors).items() if isinstance(thing, type)}
        self.assertEqual(named - {"SwayError"}, {name for name, _, _ in REFUSED})

    def test_refused_deeds_change_nothing(self):
        keeper, told, bench = keeper_of(), ledger_of(), bench_of()
        kept = show_keeper(keeper), keeper.marks(), len(keeper), told.rest(), told.rows(), told.work(), bench.log()
        for deed in (lambda: keeper.to(None), lambda: keeper.through([3, 9, "x"]), lambda: keeper.mark("A"),
                     lambda: keeper.back("there"), lambda: keeper.mend(UNLIKE), lambda: told.to("x"),
                     lambda: told.through([3, 9, None]), lambda: told.through([]), lambda: told.turned(9),
                     lambda: bench.say("to k"), lambda: bench.sit(["to k 9", "lead l 1", "undo k", "to x 5"])):
            with self.assertRaises(errors.SwayError):
                deed()
        self.assertEqual(kept, (show_keeper(keeper), keeper.marks(), len(keeper), told.rest(), told.rows(), told.work(),
                                bench.log()))
        self.assertEqual(bench_of(), bench)


class WholeTest(unittest.TestCase):
    def test_whatever_order_and_by_steps(self):
        for seed, house in enumerate(some_houses(25)):
            history = [floor(house), *some_history(seed, 8)]
            stands = led(house, (), history)
            for order in orders(house, 2):
                there = ()
                for at, (start, end) in enumerate(zip(history, history[1:])):
                    there = slow_row(house, there, end, order, end >= start)[1]
                    self.assertEqual(stands[at + 1], there)
            there = ()
            for at, (start, end) in enumerate(zip(history, history[1:])):
                step = 1 if end >= start else -1
                there = led(house, there, list(range(start, end + step, step)))[-1]
                self.assertEqual(stands[at + 1], there)

    def test_on_the_residue_alone(self):
        for seed, house in enumerate(some_houses(40)):
            history = [floor(house), *some_history(seed, 12)]
            self.assertEqual(led(house, (), history)[-1], led(house, (), residue(history))[-1])

    def test_just_one_is_told_of_each_stand(self):
        for house in some_houses(30):
            graph = slow_graph(house)
            reach = slow_turns(graph, ())
            on = {}
            for stand in all_stands(house):
                if span(house, stand) is None:
                    self.assertTrue(torn_shows(house, stand, torn(house, stand)))
                    continue
                paper = coming(house, stand)
                self.assertEqual(stand in reach, paper[0] == "come")
                self.assertTrue(coming_shows(house, stand, paper))
                on.setdefault(island_of(house, stand), []).append(stand)
            self.assertEqual(sorted((*island, len(stands)) for island, stands in on.items()), islands(house))
            self.assertEqual(sorted(reach), sorted(stand for _, stand in reached(house)))

    def test_each_closed_swing_loses_what_its_goings_tell(self):
        closed = 0
        for house in some_houses(40):
            for stand in all_stands(house):
                if span(house, stand) is None:
                    continue
                low, high = ends(house, stand)
                for start, far in ((low, roof(house)), (high, floor(house)), (low, high + 3), (high, low - 3)):
                    if bears(house, stand, start, far):
                        closed += 1
                        told = loss(house, stand, start, far)
                        self.assertEqual(work(goings(house, stand, [start, far, start])), told)
                        went = len(latch_turns(house, stand, start, far))
                        self.assertEqual(told - went, area(house, stand, start, far))
                        self.assertTrue(told >= went and (told > 0) == (went > 0))
                        self.assertTrue(swing_holds(house, stand, start, far, swing_paper(house, stand, start, far)))
                        self.assertEqual(there_and_back(house, stand, start, far)[1], stand)
        self.assertGreater(closed, 300)

    def test_parted_or_never(self):
        for seed, house in enumerate(some_houses(40)):
            other = some_house(seed + 40, len(house)) if seed % 2 else renamed(house, all_of(house)[::-1])
            swell = min(floor(house), floor(other))
            paper = told_apart(house, (), other, (), swell)
            self.assertTrue(apart_shows(house, (), other, (), swell, paper))
            for many in range(5):
                history = [swell, *some_history(seed * 5 + many, 9)]
                if counts(house, (), history) != counts(other, (), history):
                    self.assertEqual("apart", paper[0])

    def test_like_a_plain_one_or_not(self):
        for seed, house in enumerate(some_houses(60)):
            paper = like(house)
            self.assertTrue(like_holds(house, paper))
            if paper[0] == "plain":
                other = plain_house(paper[1])
                history = [min(floor(house), floor(other)), *some_history(seed, 30)]
                self.assertEqual(counts(house, (), history), counts(other, (), history))
                self.assertEqual(counts(house, (), history)[-1], counted(house, history))

    def test_what_is_told_may_be_handed_in(self):
        for seed, house in enumerate(some_houses(12)):
            self.assertEqual(house, read_house(show_house(house)))
            for made in (moved(house, 3), turned(house), renamed(house, all_of(house))):
                self.assertIn((1, all_of(house)), reached(made))
                self.assertEqual("alike", told_apart(made, (), made, (), floor(made))[0])
            for _, stand in reached(house):
                self.assertEqual(stand, led(house, (), fewest(house, stand))[-1])
                self.assertEqual(others(house, others(house, stand)), stand)
            keeper = Keeper(house, floor(house))
            keeper.through(some_history(seed, 9))
            self.assertEqual(keeper, read_keeper(show_keeper(keeper)))
            for swell in (-9, 0, 5):
                stands = settled_at(house, swell)
                self.assertIn(joined(house, swell, stands[0], stands[-1]), stands)
                self.assertIn(met(house, swell, stands[0], stands[-1]), stands)
            self.assertEqual(passing(house, (), [floor(house)], house, (), [floor(house)]), None)
            self.assertEqual([going(house, (), floor(house), latch) for latch in all_of(house)],
                             [next(swell for swell, latches in branch(house, (), floor(house)) if latch in latches)
                              for latch in all_of(house)])
        numbers = Numbers(3)
        for row in ("to k 5", "apart a - b 0,1 -7", "through k 0 1,2", f"mend k {'abc'[numbers.below(3)]}"):
            self.assertEqual(row, show_order(read_order(row)))


if __name__ == "__main__":
    unittest.main()
