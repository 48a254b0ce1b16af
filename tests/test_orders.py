"""Promises [83], [84], [86], [90]: orders read as tuples and written back."""

import unittest

from swaykeep.errors import NoRow
from swaykeep.houses import House
from swaykeep.htexts import show_house
from swaykeep.orders import is_deed, read_order, show_order
from tests.samples import STRANGE, Refusals, some_houses

HOUSE = House(((3, 1), (5, 2)), ((0, 1, 1),))
ROWS = "latch 3 1;latch 5 2;help 0 1 1;"
MOST = "9" * 30
NAMES = ["a", "abcdefgh", "ok", "none", "up"]
NO_NAMES = ["", "abcdefghi", "A", "aB", "a1", "1", "-", "a-", "a,b", "a_", "a;", "\u00e9", "a\n", "\ta", "\u00df"]
NUMBERS = {"0": 0, "7": 7, "-7": -7, "10": 10, MOST: int(MOST), "-" + MOST: -int(MOST)}
NO_NUMBERS = ["", "-", "-0", "07", "-07", "+7", "7.0", "seven", "1_0", " 7", "--7", "7-", "\u0663", "\u00b2",
              MOST + "9", "-" + MOST + "9", "0x7", "7,", "7\n"]
SWELLS = {"5": [5], "5,-3,0": [5, -3, 0], "1,1": [1, 1], f"{MOST},-{MOST}": [int(MOST), -int(MOST)]}
NO_SWELLS = ["", ",", "5,", ",5", "5,,3", "5, 3", "5;3", "5,03", "-", "5,-", "5,+3", "5,a", MOST + "9,0", "0,-0"]
STANDS = {"-": (), "0": (0,), "0,1,13": (0, 1, 13), "7": (7,), "99": (99,)}
NO_STANDS = ["", "--", "-1", "1,0", "0,0", "0,", ",0", "0,-", "-,0", "0;1", "00", "0,01", "a", "0,1,1"]
WAYS = {"up": "up", "down": "down"}
NO_WAYS = ["", "Up", "u", "upp", "sideways", "up\n", "0", "-"]
TEXTS = {ROWS: HOUSE, "latch 0 -1;": House(((0, -1),)), "latch -1 -30;" * 14: House(((-1, -30),) * 14)}
NO_TEXTS = ["", ";", "latch 3 1", "latch 3 1\n", ROWS[:-1], ROWS + ";", ROWS + "\n", "\n" + ROWS,
            ROWS.replace(";", "\n"), "latch 1 3;", "latch 3 1;latch 5 2\n;", " " + ROWS, ROWS + " ", "latch  3 1;",
            "help 0 1 1;latch 3 1;", "latch 3 1;help 0 1 1;", ROWS + "help 0 1 1;", "latch 3 1;" * 15,
            "latch 03 1;", "a", "-", "Latch 3 1;"]

KINDS = {
    "NAME": ({name: name for name in NAMES}, NO_NAMES), "NUMBER": (NUMBERS, NO_NUMBERS), "SWELLS": (SWELLS, NO_SWELLS),
    "TIMES": ({word: number for word, number in NUMBERS.items() if number >= 0}, [*NO_NUMBERS, "-7", "-" + MOST]),
    "STAND": (STANDS, NO_STANDS), "WAY": (WAYS, NO_WAYS), "ROWS": (TEXTS, NO_TEXTS)}
DEEDS = {
    "house": "NAME ROWS", "moved": "NAME NAME NUMBER", "turned": "NAME NAME", "keep": "NAME NAME NUMBER STAND",
    "twin": "NAME NAME", "forget": "NAME", "mark": "NAME NAME", "back": "NAME NAME", "tally": "NAME NAME NUMBER STAND",
    "to": "NAME NUMBER", "mend": "NAME NAME", "through": "NAME TIMES SWELLS", "repeat": "NAME TIMES SWELLS",
    "undo": "NAME", "lead": "NAME NUMBER"}
QUESTIONS = {
    "text": "NAME", "span": "NAME STAND", "coming": "NAME STAND", "like": "NAME",
    "apart": "NAME STAND NAME STAND NUMBER", "stand": "NAME", "swell": "NAME", "base": "NAME", "residue": "NAME",
    "marks": "NAME", "next": "NAME WAY", "same": "NAME NAME", "rest": "NAME", "rows": "NAME", "loss": "NAME",
    "work": "NAME"}
ORDERS = {**DEEDS, **QUESTIONS}


def some_words(word, turn):
    """Good words for all that an order wants, and what they are read as; other ones each turn."""
    words, things = [word], [word]
    for at, kind in enumerate(ORDERS[word].split()):
        good = list(KINDS[kind][0].items())
        text, thing = good[(turn + at) % len(good)]
        words.append(text)
        things.append(thing)
    return words, tuple(things)


class ReadTest(Refusals, unittest.TestCase):
    def refused_at(self, at, row):
        self.refused(NoRow, {"at": at}, lambda: read_order(row))

    def test_good_words(self):
        for word in ORDERS:
            for turn in range(7):
                words, things = some_words(word, turn)
                told = read_order(" ".join(words))
                self.assertEqual(things, told)
                self.assertEqual([thing.__class__ for thing in things], [thing.__class__ for thing in told])
                self.assertEqual(" ".join(words), show_order(told))
                self.assertIs(word in DEEDS, is_deed(told))

    def test_each_word_wrong_in_turn(self):
        for word, kinds in ORDERS.items():
            words, _ = some_words(word, 3)
            for at, kind in enumerate(kinds.split(), start=1):
                for wrong in KINDS[kind][1]:
                    if " " in wrong and kind != "ROWS":
                        continue
                    self.refused_at(at, " ".join([*words[:at], wrong, *words[at + 1:]]))
                    # the first wrong word, whatever comes behind it
                    if kind != "ROWS":
                        self.refused_at(at, " ".join([*words[:at], wrong, "?", "", "?", "?", "?", "?"]))
                        self.refused_at(at, " ".join([*words[:at], wrong]))

    def test_no_such_word(self):
        for word in ("", "House", "houses", "hous", "HOUSE", "help", "a", "0", "-", "\n", "to\n", "log", "NEW",
                     "\u00e9"):
            self.refused_at(0, word)
            self.refused_at(0, f"{word} a b")
        for row in (" ", "  ", " to k 5", "\tto k 5", "to\tk 5"):
            self.refused_at(0, row)

    def test_too_short(self):
        for word in ORDERS:
            words, _ = some_words(word, 1)
            for many in range(1, len(words)):
                self.refused_at(many, " ".join(words[:many]))
                # with a blank at its end a row has one word more, without a sign
                self.refused_at(many, " ".join(words[:many]) + " ")

    def test_too_long(self):
        for word in ORDERS:
            if word == "house":
                continue
            words, _ = some_words(word, 2)
            for more in (["a"], ["0"], [""], ["a", "b"], ["", ""], ["-"]):
                self.refused_at(len(words), " ".join([*words, *more]))

    def test_two_blanks(self):
        for word in ORDERS:
            words, _ = some_words(word, 4)
            for at in range(1, len(words)):
                self.refused_at(at, " ".join([*words[:at], "", *words[at:]]))

    def test_no_text(self):
        for thing in STRANGE:
            if thing.__class__ is not str:
                self.refused_at(0, thing)
        for thing in (b"undo k", ["undo k"], ("undo", "k"), ["undo", "k"]):
            self.refused_at(0, thing)

    def test_rows_are_one_word(self):
        self.assertEqual(("house", "a", HOUSE), read_order(f"house a {ROWS}"))
        self.refused_at(2, "house a")
        # a name may be a word of a house's text
        self.refused_at(2, f"house {ROWS}")
        self.assertEqual(("house", "latch", HOUSE), read_order(f"house latch {ROWS}"))
        self.refused_at(2, f"house a b {ROWS}")
        self.refused_at(2, f"house a {ROWS} {ROWS}")
        self.refused_at(3, "through k 2 1, 2")

    def test_helps_in_another_order(self):
        told = read_order("house a latch 3 1;latch 5 2;help 1 0 2;help 0 1 1;")
        self.assertEqual("house a latch 3 1;latch 5 2;help 0 1 1;help 1 0 2;", show_order(told))
        self.assertEqual(told, read_order(show_order(told)))
        for house in some_houses(30):
            row = "house abc " + show_house(house).replace("\n", ";")
            self.assertEqual(("house", "abc", house), read_order(row))
            self.assertEqual(row, show_order(read_order(row)))

    def test_told_anew(self):
        read_order("through k 2 1,2")[3].append(None)
        self.assertEqual(("through", "k", 2, [1, 2]), read_order("through k 2 1,2"))


class DeedTest(unittest.TestCase):
    def test_deeds_and_questions(self):
        self.assertEqual(15, len(DEEDS))
        for word in ORDERS:
            self.assertIs(word in DEEDS, is_deed(some_words(word, 0)[1]))


if __name__ == "__main__":
    unittest.main()
