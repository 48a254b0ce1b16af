"""Promises [83] to [89]: a bench's orders, refusals, log, sessions and copies."""

import unittest

from swaykeep.apart import told_apart
from swaykeep.bench import Bench
from swaykeep.comings import coming
from swaykeep.errors import (NoHouse, NoMark, NoMend, NoName, NoRow, NoSession, NoSpan, NoStand, SwayError, TooMany,
                             Unsettled)
from swaykeep.falls import next_move
from swaykeep.htexts import read_house, show_house
from swaykeep.keepers import Keeper
from swaykeep.ledger import Ledger
from swaykeep.likeness import like
from swaykeep.pulls import span, torn
from swaykeep.turning import moved, turned
from tests.samples import STRANGE, Numbers, Refusals, some_house

ROWS = "latch 3 1;latch 5 2;help 0 1 1;"
UNLIKE = "latch 3 0;latch 14 3;help 0 1 9;help 1 0 2;"
NINE = "latch 3 1;" * 9
BEGUN = [f"house a {ROWS}", "house b latch 3 1;latch 5 2;", f"house n {NINE}", "keep k a 0 -", "keep m b 9 0,1",
         "tally l a 0 -", "mark k first", "to k 3", "lead l 9"]
MOST = "9" * 30


def bench_of(rows):
    bench = Bench()
    for row in rows:
        bench.say(row)
    return bench


def all_told(bench):
    """All that a bench tells."""
    houses, keepers, ledgers = bench.named()
    rows = [f"text {name}" for name in houses]
    rows += [f"{word} {name}" for name in keepers for word in ("stand", "swell", "base", "residue", "marks")]
    rows += [f"next {name} {way}" for name in keepers for way in ("up", "down")]
    rows += [f"{word} {name}" for name in ledgers for word in ("rest", "rows", "loss", "work")]
    rows += [f"same {one} {two}" for one in keepers for two in keepers]
    return bench.named(), bench.log(), len(bench), [(row, bench.say(row)) for row in rows]


class SlowBench:
    """A bench that does what the words of the document say, of rows that are well formed."""

    def __init__(self):
        self.houses, self.keepers, self.ledgers, self.deeds = {}, {}, {}, []

    def thing(self, kind, name):
        if name not in kind:
            raise NoName(name)
        return kind[name]

    def say(self, row):
        word, *words = row.split(" ", 2) if row.startswith("house ") else row.split(" ")
        answer = self.deed(word, words)
        if answer is not None:
            self.deeds.append(row)
            return answer
        return self.question(word, words)

    def deed(self, word, words):
        if word == "house":
            self.houses[words[0]] = read_house(words[1].replace(";", "\n"))
        elif word == "moved":
            self.houses[words[0]] = moved(self.thing(self.houses, words[1]), int(words[2]))
        elif word == "turned":
            self.houses[words[0]] = turned(self.thing(self.houses, words[1]))
        elif word == "keep":
            house = self.thing(self.houses, words[1])
            self.keepers[words[0]] = Keeper(house, int(words[2]), stand=stand_of(words[3]))
        elif word == "twin":
            self.keepers[words[0]] = self.thing(self.keepers, words[1]).twin()
        elif word == "tally":
            house = self.thing(self.houses, words[1])
            self.ledgers[words[0]] = Ledger(house, stand_of(words[3]), int(words[2]))
        elif word in ("forget", "mark", "back"):
            keeper = self.thing(self.keepers, words[0])
            {"forget": keeper.forget, "mark": keeper.mark, "back": keeper.back}[word](*words[1:])
        elif word == "to":
            return word_of(self.thing(self.keepers, words[0]).to(int(words[1])))
        elif word == "mend":
            keeper, house = self.thing(self.keepers, words[0]), self.thing(self.houses, words[1])
            return word_of(keeper.mend(house))
        elif word == "through":
            return word_of(self.thing(self.keepers, words[0]).through(swells_of(words[2]), times=int(words[1])))
        elif word == "repeat":
            return word_of(self.thing(self.ledgers, words[0]).through(swells_of(words[2]), times=int(words[1])))
        elif word == "undo":
            return "yes" if self.thing(self.keepers, words[0]).undo() else "no"
        elif word == "lead":
            return rows_of(self.thing(self.ledgers, words[0]).to(int(words[1])))
        else:
            return None
        return "ok"

    def question(self, word, words):
        if word in ("text", "span", "coming", "like"):
            house = self.thing(self.houses, words[0])
            return getattr(self, word)(house, *words[1:])
        if word == "apart":
            one, two = self.thing(self.houses, words[0]), self.thing(self.houses, words[2])
            paper = told_apart(one, stand_of(words[1]), two, stand_of(words[3]), int(words[4]))
            return "alike" if paper[0] == "alike" else ",".join(str(swell) for swell in paper[1])
        if word in ("rest", "rows", "loss", "work"):
            ledger = self.thing(self.ledgers, words[0])
            return {"rest": ",".join(str(swell) for swell in ledger.rest()), "rows": rows_of(ledger.rows()),
                    "loss": str(ledger.loss()), "work": str(ledger.work())}[word]
        keeper = self.thing(self.keepers, words[0])
        if word == "same":
            return "yes" if keeper == self.thing(self.keepers, words[1]) else "no"
        if word == "next":
            move = next_move(keeper.house_now(), keeper.stand_now(), keeper.swell_now(), up=words[1] == "up")
            return "none" if move is None else f"{move[0]} {word_of(move[1])}"
        return {"stand": word_of(keeper.stand_now()), "swell": str(keeper.swell_now()),
                "base": f"{keeper.base()[1]} {word_of(keeper.base()[0])}", "marks": ",".join(keeper.marks()) or "none",
                "residue": ",".join(str(swell) for swell in keeper.residue())}[word]

    def text(self, house):
        return show_house(house).replace("\n", ";")

    def span(self, house, word):
        both = span(house, stand_of(word))
        if both is None:
            return "{} {} {}".format(*torn(house, stand_of(word)))
        return " ".join("none" if end is None else str(end) for end in both)

    def coming(self, house, word):
        paper = coming(house, stand_of(word))
        return "never" if paper[0] == "never" else ",".join(str(swell) for swell in paper[1])

    def like(self, house):
        paper = like(house)
        return "plain " + rows_of(paper[1]) if paper[0] == "plain" else "{} {} {}".format(*paper[:3])


def stand_of(word):
    return () if word == "-" else tuple(swells_of(word))


def swells_of(word):
    return [int(part) for part in word.split(",")]


def word_of(stand):
    return ",".join(str(latch) for latch in stand) or "-"


def rows_of(rows):
    return ";".join(" ".join(str(part) for part in row) for row in rows) or "none"


def some_row(numbers):
    """A well formed row, of names that stand for things or don't."""
    def name():
        return "abcd"[numbers.below(4)]

    def number():
        return str(numbers.between(-12, 14))

    def stand():
        return ("-", "-", "0", "1", "0,1", "0,1,2", "2")[numbers.below(7)]

    def swells():
        return ",".join(number() for _ in range(1 + numbers.below(6)))

    def rows():
        return show_house(some_house(numbers.below(40), 1 + numbers.below(3))).replace("\n", ";")

    forms = ("house N R", "house N R", "moved N N U", "turned N N", "keep N N U S", "keep N N U S", "twin N N",
             "forget N", "mark N M", "back N M", "tally N N U S", "tally N N U S", "to N U", "to N U", "mend N N",
             "through N T W", "repeat N T W", "undo N", "lead N U", "lead N U", "text N", "span N S", "coming N S",
             "like N", "apart N S N S U", "stand N", "swell N", "base N", "residue N", "marks N", "next N Y",
             "same N N", "rest N", "rows N", "loss N", "work N")
    words = {"N": name, "U": number, "S": stand, "W": swells, "R": rows, "T": lambda: str(numbers.below(4)),
             "M": lambda: "xy"[numbers.below(2)], "Y": lambda: ("up", "down")[numbers.below(2)]}
    return " ".join(words.get(word, lambda: word)() for word in forms[numbers.below(len(forms))].split())


def said(bench, row):
    """An answer, or the class and the fields of a refusal."""
    try:
        return bench.say(row)
    except SwayError as refusal:
        return refusal.__class__.__name__, vars(refusal)


class AnswersTest(Refusals, unittest.TestCase):
    def told(self, bench, row, answer):
        self.assertEqual(answer, bench.say(row), row)

    def test_each_word(self):
        bench = Bench()
        for row, answer in (
                (f"house a {ROWS}", "ok"), ("text a", ROWS), ("moved b a -5", "ok"),
                ("text b", "latch -2 -4;latch 0 -3;help 0 1 1;"), ("turned c a", "ok"),
                ("text c", "latch -1 -3;latch -1 -4;help 0 1 1;"), ("span a -", "none 2"), ("span a 0", "2 3"),
                ("span a 0,1", "2 none"), ("span a 1", "torn 1 0"), ("coming a -", "1"), ("coming a 0", "1,3"),
                ("like a", "plain 3 1 1;4 1 1"), (f"house u {UNLIKE}", "ok"), ("like u", "unlike -1 3"),
                ("apart a - a - 0", "alike"), ("house p latch 3 1;latch 5 2;", "ok"), ("apart a - p - 0", "0,4"),
                ("apart a 0 p - 2", "2"), ("keep k a 0 -", "ok"), ("stand k", "-"), ("swell k", "0"),
                ("base k", "0 -"), ("residue k", "0"), ("marks k", "none"), ("next k up", "3 0"),
                ("next k down", "none"), ("undo k", "no"), ("to k 4", "0,1"), ("stand k", "0,1"), ("to k 4", "-"),
                ("mark k up", "ok"), ("mark k none", "ok"), ("marks k", "none,up"), ("next k down", "1 0,1"),
                ("next k up", "none"), ("forget k", "ok"), ("base k", "4 0,1"), ("residue k", "4"),
                ("through k 2 2,6,1", "-"), ("residue k", "4,2,6,1"), ("through k 0 9", "-"), ("swell k", "1"),
                ("back k up", "ok"), ("stand k", "0,1"), ("residue k", "0,4"), ("undo k", "yes"), ("stand k", "-"),
                ("twin m k", "ok"), ("same k m", "yes"), ("to m 3", "0"), ("same k m", "no"), ("same m m", "yes"),
                ("mend m b", "1"), ("stand m", "0,1"), ("tally l a 0 -", "ok"), ("rest l", "0"), ("rows l", "none"),
                ("loss l", "0"), ("work l", "0"), ("lead l 9", "none"), ("lead l 1", "none"), ("lead l 9", "1 9 5"),
                ("rows l", "1 9 5 1"), ("rest l", "0,9"), ("work l", "12"),
                ("repeat l 1000 3,4,0,9", "0,1"), ("rows l", "0 9 5 1000;1 9 5 1;3 4 0 1000"), ("loss l", "5005"),
                ("lead l 5", "none"), ("lead l 6", "none"), ("lead l -3", "5 6 0")):
            self.told(bench, row, answer)

    def test_never(self):
        bench = bench_of(["house a latch 4 -1;latch 9 2;help 0 1 7;help 1 0 9;"])
        self.told(bench, "coming a 0", "never")
        self.told(bench, "span a 0", "0 1")

    def test_great_numbers(self):
        bench = Bench()
        self.told(bench, f"house a latch {MOST} -{MOST};", "ok")
        self.told(bench, f"moved b a -{MOST}", "ok")
        self.told(bench, "text b", f"latch 0 -{int(MOST) * 2};")
        self.told(bench, "keep k a 0 -", "ok")
        self.told(bench, "next k up", f"{MOST} 0")
        self.told(bench, f"through k 1{'0' * 29} {MOST},-{MOST}", "-")
        self.told(bench, "tally l a 0 -", "ok")
        self.told(bench, f"repeat l 1{'0' * 29} {MOST},-{MOST}", "-")
        loss = 2 * int(MOST)
        self.told(bench, "rows l", f"-{MOST} {MOST} {loss} {10 ** 29 - 1}")
        self.told(bench, "loss l", str(loss * (10 ** 29 - 1)))
        self.told(bench, "work l", str(loss * 10 ** 29))

    def test_beside_a_slow_bench(self):
        answers = {}
        for seed in range(60):
            numbers = Numbers(seed)
            bench, slow = Bench(), SlowBench()
            for _ in range(120):
                row = some_row(numbers)
                ahead = said(slow, row)
                self.assertEqual(ahead, said(bench, row), row)
                kind = (row.split()[0], ahead[0] if isinstance(ahead, tuple) else "answer")
                answers[kind] = answers.get(kind, 0) + 1
            self.assertEqual(slow.deeds, bench.log())
            self.assertEqual((sorted(slow.houses), sorted(slow.keepers), sorted(slow.ledgers)), bench.named())
            self.assertEqual(len(slow.houses) + len(slow.keepers) + len(slow.ledgers), len(bench))
            self.assertEqual(all_told(bench), all_told(bench_of(bench.log())))
        self.assertEqual(31, len({word for word, kind in answers if kind == "answer"}))
        self.assertLessEqual({"NoName", "NoStand", "Unsettled", "NoMend", "NoMark", "NoSpan"},
                             {kind for _, kind in answers})

    def test_named_and_len(self):
        self.assertEqual((([], [], []), 0, []), (Bench().named(), len(Bench()), Bench().log()))
        bench = bench_of(BEGUN)
        self.assertEqual((["a", "b", "n"], ["k", "m"], ["l"]), bench.named())
        self.assertEqual(6, len(bench))
        self.assertEqual((tuple, list), (bench.named().__class__, bench.named()[0].__class__))
        # each kind has names of its own
        for row in ("keep a a 0 -", "tally a a 0 -", "keep l a 0 -"):
            bench.say(row)
        self.assertEqual((["a", "b", "n"], ["a", "k", "l", "m"], ["a", "l"]), bench.named())
        self.assertEqual(9, len(bench))
        self.assertEqual((ROWS, "0"), (bench.say("text a"), bench.say("swell a")))

    def test_a_name_put_anew(self):
        bench = bench_of(BEGUN)
        self.told(bench, "moved a a 5", "ok")
        self.told(bench, "text a", "latch 8 6;latch 10 7;help 0 1 1;")
        # what was made of the old one stays as it is
        self.told(bench, "next k up", "4 1")
        self.told(bench, "twin k m", "ok")
        self.told(bench, "same k m", "yes")
        self.told(bench, "to k 0", "0,1")
        self.told(bench, "same k m", "no")
        self.told(bench, "stand m", "0,1")
        self.told(bench, "keep k b 0 -", "ok")
        self.told(bench, "undo k", "no")
        self.told(bench, "marks k", "none")
        self.told(bench, "tally l b 0 -", "ok")
        self.told(bench, "rest l", "0")
        self.assertEqual(6, len(bench))


class RefusedTest(Refusals, unittest.TestCase):
    def refused_so(self, error, fields, row):
        bench = bench_of(BEGUN)
        ahead = all_told(bench)
        self.refused(error, fields, lambda: bench.say(row))
        self.assertEqual(ahead, all_told(bench))
        self.assertEqual(bench_of(BEGUN), bench)

    def test_no_rows(self):
        for thing in STRANGE:
            if thing.__class__ is not str:
                self.refused_so(NoRow, {"at": 0}, thing)
        for row, at in (("", 0), (" ", 0), ("to", 1), ("to k", 2), ("to k x", 2), ("to k 5 ", 3), ("to  k 5", 1),
                        ("to k 5 5", 3), (f"to k {MOST}9", 2), ("to kkkkkkkkk 5", 1), ("to K 5", 1), ("house a", 2),
                        ("house a latch 1 3;", 2), (f"house a {ROWS[:-1]}", 2), ("house a latch 3 1\n", 2),
                        ("mark k a1", 2), ("through k -1 3", 2), ("keep x a 0 1,0", 4), ("next k", 2),
                        ("next k no", 2)):
            self.refused_so(NoRow, {"at": at}, row)

    def test_no_names(self):
        for row, name in (("text x", "x"), ("moved x y 5", "y"), ("turned x k", "k"), ("keep x k 0 -", "k"),
                          ("twin x a", "a"), ("forget a", "a"), ("mark l x", "l"), ("back a x", "a"), ("to a 5", "a"),
                          ("tally x l 0 -", "l"), ("mend x y", "x"), ("mend k y", "y"), ("mend k k", "k"),
                          ("through l 1 5", "l"), ("repeat k 1 5", "k"), ("undo l", "l"), ("lead k 5", "k"),
                          ("span k -", "k"), ("coming x -", "x"), ("like l", "l"), ("apart x - y - 0", "x"),
                          ("apart a - k - 0", "k"), ("stand a", "a"), ("swell l", "l"), ("base a", "a"),
                          ("residue x", "x"), ("marks x", "x"), ("next l up", "l"), ("same x y", "x"),
                          ("same k l", "l"), ("rest k", "k"), ("rows a", "a"), ("loss k", "k"), ("work x", "x")):
            self.refused_so(NoName, {"name": name}, row)
        self.assertRaises(NoName, Bench().say, "text a")

    def test_as_the_stages_refuse(self):
        for row, error, fields in (
                ("keep x a 0 5", NoStand, {"stand": (5,)}), ("keep x a 9 -", Unsettled, {"latch": 0, "swell": 9}),
                ("keep k a 0 0,1", Unsettled, {"latch": 0, "swell": 0}), ("tally x a 0 2", NoStand, {"stand": (2,)}),
                ("tally l a 9 0", Unsettled, {"latch": 1, "swell": 9}), ("back k x", NoMark, {"name": "x"}),
                ("mend k n", NoMend, {"what": "many", "number": 9}), ("span a 7", NoStand, {"stand": (7,)}),
                ("coming a 1", NoSpan, {"stand": (1,)}), ("coming a 9", NoStand, {"stand": (9,)}),
                ("like n", TooMany, {"limit": 8}), ("apart a - n - 0", TooMany, {"limit": 8}),
                ("apart n 77 a 77 0", TooMany, {"limit": 8}), ("apart a 5 b 6 9", NoStand, {"stand": (5,)}),
                ("apart a - b 6 9", NoStand, {"stand": (6,)}), ("apart a - b - 9", Unsettled, {"latch": 0, "swell": 9}),
                ("apart a 0,1 b - 9", Unsettled, {"latch": 0, "swell": 9})):
            self.refused_so(error, fields, row)
        bench = bench_of(["house a latch 3 1;latch 5 2;", "house b latch 2 1;latch 6 2;", "keep k a 0 -"])
        self.refused(NoMend, {"what": "both", "number": 1}, lambda: bench.say("mend k b"))

    def test_due_at_once(self):
        # no order ahead of no name, no name ahead of what the stages refuse, the first word and the first name first
        self.refused_so(NoRow, {"at": 3}, "moved x y z")
        self.refused_so(NoRow, {"at": 1}, "moved X y z")
        self.refused_so(NoRow, {"at": 5}, "keep x y 0 5 -")
        self.refused_so(NoRow, {"at": 4}, "apart x - y 1,0 z")
        self.refused_so(NoName, {"name": "y"}, "keep x y 9 77")
        self.refused_so(NoName, {"name": "y"}, "apart a 77 y 77 0")
        self.refused_so(NoName, {"name": "y"}, "mend y n")
        self.refused_so(NoStand, {"stand": (77,)}, "keep x a 9 77")

    def test_refused_deeds_leave_what_stands_there(self):
        bench = bench_of(BEGUN)
        for row in ("keep k a 9 -", "tally l a 9 -", "moved a x 5", "turned a x", "twin k x", "house a latch 1 2;"):
            self.assertRaises(SwayError, bench.say, row)
        self.assertEqual(all_told(bench_of(BEGUN)), all_told(bench))
        self.assertFalse(issubclass(NoHouse, NoRow))


class LogTest(unittest.TestCase):
    def test_deeds_alone_as_they_were_said(self):
        bench = Bench()
        rows = ["house a latch 3 1;latch 5 2;help 1 0 2;help 0 1 1;", "text a", "keep k a 0 -", "stand k", "undo k",
                "to k 0", "tally l a 0 -", "lead l 0", "rows l"]
        for row in rows:
            bench.say(row)
        self.assertRaises(SwayError, bench.say, "keep k a 9 -")
        self.assertEqual([rows[0], rows[2], rows[4], rows[5], rows[6], rows[7]], bench.log())

    def test_said_again(self):
        for bench in (Bench(), bench_of(BEGUN)):
            again = bench.said_again(bench.log())
            self.assertIsInstance(again, Bench)
            self.assertEqual(bench, again)
            self.assertEqual(all_told(bench), all_told(again))
        other = bench_of(BEGUN).said_again(BEGUN[:2])
        self.assertEqual((["a", "b"], [], []), other.named())
        self.assertEqual(Bench(), bench_of(BEGUN).said_again([]))

    def test_apart_from_then_on(self):
        bench = bench_of(BEGUN)
        log = bench.log()
        again = bench.said_again(log)
        self.assertEqual(BEGUN, log)
        again.say("to k 9")
        again.say("lead l 1")
        again.say("turned a a")
        self.assertEqual(all_told(bench_of(BEGUN)), all_told(bench))
        self.assertEqual("yes", bench.say("undo k"))
        self.assertEqual(("-", "0,1"), (bench.say("stand k"), again.say("stand k")))

    def test_told_anew(self):
        bench = bench_of(BEGUN)
        bench.log().clear()
        bench.named()[0].clear()
        log = bench.log()
        bench.say("to k 9")
        self.assertEqual((BEGUN, [*BEGUN, "to k 9"]), (log, bench.log()))
        again = bench.said_again(log)
        log.append("to k 3")
        self.assertEqual((BEGUN, ["a", "b", "n"]), (again.log(), bench.named()[0]))

    def test_three_hundred_rows(self):
        bench = Bench()
        rows = BEGUN + [f"to k {k * 7 % 11 - 3}" if k % 2 else f"lead l {k * 5 % 13 - 4}" for k in range(291)]
        answers = bench.sit(rows)
        self.assertEqual(answers, [bench_of(rows[:at]).say(row) for at, row in enumerate(rows[:20])] + answers[20:])
        self.assertEqual((300, rows), (len(answers), bench.log()))
        self.assertEqual(all_told(bench), all_told(bench.said_again(rows)))
        for _ in range(146):
            self.assertEqual("yes", bench.say("undo k"))
        self.assertEqual("no", bench.say("undo k"))


class SessionTest(Refusals, unittest.TestCase):
    ROWS = ["to k 5", "mark k second", "stand k", "lead l 1", "house c latch 0 -1;", "keep m c 0 0", "lead l 9",
            "moved a a 1", "forget k"]

    def test_answers(self):
        bench, one = bench_of(BEGUN), bench_of(BEGUN)
        told = bench.sit(self.ROWS)
        self.assertEqual(list, told.__class__)
        self.assertEqual([one.say(row) for row in self.ROWS], told)
        self.assertEqual(all_told(one), all_told(bench))
        self.assertEqual([], bench.sit([]))
        self.assertEqual(all_told(one), all_told(bench))
        told.clear()
        self.assertEqual([*BEGUN, *[row for row in self.ROWS if row != "stand k"]], bench.log())

    def test_refused_at_each_row(self):
        for wrong, why in (("to k", "NoRow"), (None, "NoRow"), ("text x", "NoName"), ("keep x a 99 -", "Unsettled"),
                           ("back k third", "NoMark"), ("mend k n", "NoMend"), ("like n", "TooMany"),
                           ("span a 7", "NoStand"), ("coming b 7", "NoStand"), ("", "NoRow")):
            for at in range(len(self.ROWS) + 1):
                bench = bench_of(BEGUN)
                ahead = all_told(bench)
                rows = [*self.ROWS[:at], wrong, *self.ROWS[at:]]
                kept = list(rows)
                self.refused(NoSession, {"at": at, "why": why}, lambda: bench.sit(rows))
                self.assertEqual(kept, rows)
                self.assertEqual(ahead, all_told(bench))
                # deeds to be undone and marks, too
                self.assertEqual(["yes", "no"], bench.sit(["undo k", "undo k"]))
                self.assertEqual("first", bench.say("marks k"))
                self.assertEqual("no", bench.say("undo m"))

    def test_a_bench_without_a_thing(self):
        bench = Bench()
        self.refused(NoSession, {"at": 1, "why": "NoName"}, lambda: bench.sit([BEGUN[0], "text b"]))
        self.assertEqual((([], [], []), []), (bench.named(), bench.log()))
        self.assertEqual(["ok"] * 7 + ["0", "none"], bench.sit(BEGUN))


class EqualTest(unittest.TestCase):
    def test_equal_where_the_same_names_stand_for_equal_things(self):
        self.assertEqual(Bench(), Bench())
        self.assertEqual(bench_of(BEGUN), bench_of(BEGUN))
        self.assertNotEqual(bench_of(BEGUN), Bench())
        # logs, marks and deeds to be undone aside
        one, two = bench_of(BEGUN), bench_of(BEGUN)
        two.sit(["to k 3", "mark k second", "turned a a", "turned a a", "lead l 9"])
        self.assertEqual(one, two)
        for row in ("to k 4", "lead l 5", "moved a a 1", "keep x a 0 -", "house x latch 0 -1;", "tally x a 0 -",
                    "keep k b 3 0"):
            other = bench_of(BEGUN)
            other.say(row)
            self.assertFalse(one == other, row)
            self.assertFalse(other == one, row)

    def test_equal_to_nothing_else(self):
        for thing in STRANGE[:20]:
            self.assertFalse(bench_of(BEGUN) == thing)
            self.assertTrue(Bench() != thing)


class CopyTest(unittest.TestCase):
    def test_equal_with_its_log(self):
        for bench in (Bench(), bench_of(BEGUN)):
            copy = bench.copied()
            self.assertIsInstance(copy, Bench)
            self.assertEqual(bench, copy)
            self.assertEqual(all_told(bench), all_told(copy))

    def test_led_apart(self):
        deeds = ["to k 9", "undo k", "undo k", "mark k second", "forget m", "lead l 1", "repeat l 5 3,9,0",
                 "moved a a 3", "house z latch 0 -1;", "keep z a 0 -", "tally z a 0 -", "mend m b", "back k first",
                 "twin m k"]
        for first in (True, False):
            bench = bench_of(BEGUN)
            copy = bench.copied()
            one, other = (bench, copy) if first else (copy, bench)
            ahead = all_told(other)
            for at, row in enumerate(deeds):
                answer = one.say(row)
                self.assertEqual(ahead, all_told(other), row)
                self.assertEqual(answer, bench_of([*BEGUN, *deeds[:at]]).say(row))
            self.assertEqual(["yes", "no", "first"], other.sit(["undo k", "undo k", "marks k"]))
            self.assertEqual(all_told(bench_of(BEGUN + deeds)), all_told(one))


if __name__ == "__main__":
    unittest.main()
