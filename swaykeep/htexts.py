"""Houses and stands written as texts, and read back."""

from swaykeep.errors import NoText
from swaykeep.guards import check_rising, is_rising
from swaykeep.houses import House

# more figures than int reads at once on every machine
MOST_FIGURES = 600


def number_of(figures):
    """The number of figures, however many."""
    if len(figures) <= MOST_FIGURES:
        return int(figures)
    number = 0
    for figure in figures:
        number = number * 10 + int(figure)
    return number


def read_number(word):
    """The whole number that a word is, or None where it is none: figures without a nought ahead."""
    figures = word[1:] if word.startswith("-") else word
    if not figures.isascii() or not figures.isdigit():
        return None
    if figures.startswith("0") and word != "0":
        return None
    return -number_of(figures) if word.startswith("-") else number_of(figures)


def read_numbers(words):
    """The tuple of the numbers that all words are, or None where one is none."""
    numbers = tuple([read_number(word) for word in words])
    return None if None in numbers else numbers


def read_rows(rows, word, many):
    """The tuples of so many numbers that stand behind the word of each row, or None where one is no such row.

    Most words of a house's rows come again and again, so each word is read once.
    """
    words = " ".join(rows).split(" ")
    if [row.count(" ") for row in rows] != [many] * len(rows) or words[::many + 1].count(word) != len(rows):
        return None
    known = {one: read_number(one) for one in sorted(set(words))}
    columns = [[known[one] for one in words[place::many + 1]] for place in range(1, many + 1)]
    if any([None in column for column in columns]):
        return None
    return list(zip(*columns))


def first_wrong(rows):
    """The number, from 1, of the first row that is none of a house, or a latch behind a help."""
    helping = False
    for at, row in enumerate(rows, start=1):
        if read_rows([row], "help", 3) is not None:
            helping = True
        elif helping or read_rows([row], "latch", 2) is None:
            return at
    return len(rows) + 1


def show_house(house):
    """The text of a house."""
    rows = [f"latch {up} {down}\n" for up, down in house.latches()]
    rows.extend([f"help {one} {other} {many}\n" for one, other, many in house.helps()])
    return "".join(rows)


def show_stand(stand):
    """The text of a stand."""
    check_rising(stand)
    if len(stand) == 0:
        return "-"
    return " ".join([str(latch) for latch in stand])


def read_house(text):
    """The house of a text."""
    if not isinstance(text, str):
        raise NoText(1)
    rows = text.split("\n")
    # what stands behind the last line end is a row without its own
    last = rows.pop()
    head, _, _ = text.partition("help ")
    many = head.count("\n")
    latches = read_rows(rows[:many], "latch", 2)
    helps = read_rows(rows[many:], "help", 3)
    if latches is None or helps is None or last != "":
        raise NoText(first_wrong(rows))
    return House(tuple(latches), tuple(helps))


def read_stand(text):
    """The stand of a text."""
    if not isinstance(text, str):
        raise NoText(1)
    if text == "-":
        return ()
    stand = read_numbers(text.split(" "))
    if not is_rising(stand):
        raise NoText(1)
    return stand
