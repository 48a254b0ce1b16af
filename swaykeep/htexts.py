"""Houses and stands written as texts, and read back."""

from swaykeep.errors import NoText
from swaykeep.guards import check_rising, is_rising
from swaykeep.houses import House

# the word of each kind of row, and how many numbers stand behind it
ROWS = (("latch", 2), ("help", 3))


def read_number(word):
    """The whole number that a word is, or None where it is none: figures without a nought ahead."""
    figures = word[1:] if word.startswith("-") else word
    if not figures.isascii() or not figures.isdigit():
        return None
    if figures.startswith("0") and word != "0":
        return None
    number = 0
    for figure in figures:
        number = number * 10 + int(figure)
    return -number if word.startswith("-") else number


def read_numbers(words):
    """The tuple of the numbers that all words are, or None where one is none."""
    numbers = tuple([read_number(word) for word in words])
    return None if None in numbers else numbers


def read_row(row):
    """The word of a row and the tuple of its numbers, or None where it is no row of a house."""
    words = row.split(" ")
    numbers = read_numbers(words[1:])
    if numbers is None or (words[0], len(numbers)) not in ROWS:
        return None
    return words[0], numbers


def show_house(house):
    """The text of a house."""
    rows = [f"latch {up} {down}\n" for up, down in house.latches()]
    rows.extend([f"help {one} {other} {many}\n" for one, other, many in house.helps()])
    return "".join(rows)


def show_stand(stand):
    """The text of a stand."""
    check_rising(stand)
    if len(stand) == 0:
        return "-"
    return " ".join([str(latch) for latch in stand])


def read_house(text):
    """The house of a text."""
    if not isinstance(text, str):
        raise NoText(1)
    rows = text.split("\n")
    latches = []
    helps = []
    for at, row in enumerate(rows[:-1], start=1):
        told = read_row(row)
        if told is None or (told[0] == "latch" and helps):
            raise NoText(at)
        if told[0] == "latch":
            latches.append(told[1])
        else:
            helps.append(told[1])
    # what stands behind the last line end is a row without its own
    if rows[-1] != "":
        raise NoText(len(rows))
    return House(tuple(latches), tuple(helps))


def read_stand(text):
    """The stand of a text."""
    if not isinstance(text, str):
        raise NoText(1)
    if text == "-":
        return ()
    stand = read_numbers(text.split(" "))
    if not is_rising(stand):
        raise NoText(1)
    return stand
