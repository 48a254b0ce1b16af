"""Orders of a bench: rows of a word and of what it wants, read as tuples and written back."""

from swaykeep.errors import NoHouse, NoRow, NoText
from swaykeep.guards import is_name, is_rising
from swaykeep.htexts import read_house, read_number, show_house

MOST_FIGURES = 30
# what the word of each deed wants, and that of each question
DEEDS = {
    "house": ("new", "rows"), "moved": ("new", "house", "number"), "turned": ("new", "house"),
    "keep": ("new", "house", "number", "stand"), "twin": ("new", "keeper"), "forget": ("keeper",),
    "mark": ("keeper", "name"), "back": ("keeper", "name"), "tally": ("new", "house", "number", "stand"),
    "to": ("keeper", "number"), "mend": ("keeper", "house"), "through": ("keeper", "times", "swells"),
    "repeat": ("ledger", "times", "swells"), "undo": ("keeper",), "lead": ("ledger", "number")}
QUESTIONS = {
    "text": ("house",), "span": ("house", "stand"), "coming": ("house", "stand"), "like": ("house",),
    "apart": ("house", "stand", "house", "stand", "number"), "stand": ("keeper",), "swell": ("keeper",),
    "base": ("keeper",), "residue": ("keeper",), "marks": ("keeper",), "next": ("keeper", "way"),
    "same": ("keeper", "keeper"), "rest": ("ledger",), "rows": ("ledger",), "loss": ("ledger",), "work": ("ledger",)}


def wants_of(word):
    """What the word of an order wants, or None of what is none."""
    return DEEDS.get(word, QUESTIONS.get(word))


def number_in(word):
    """The number that a word is, or None where it is none, or one of too many figures."""
    most = MOST_FIGURES + 1 if word.startswith("-") else MOST_FIGURES
    return read_number(word) if len(word) <= most else None


def numbers_in(word):
    """The list of the numbers that stand in a word, or None where one is none."""
    numbers = [number_in(part) for part in word.split(",")]
    return None if None in numbers else numbers


def times_in(word):
    """The number, 0 or more, that a word is, or None."""
    number = number_in(word)
    return None if number is None or number < 0 else number


def stand_in(word):
    """The stand that a word is, or None."""
    numbers = [] if word == "-" else numbers_in(word)
    return tuple(numbers) if numbers is not None and is_rising(tuple(numbers)) else None


def way_in(word):
    """The way that a word is, or None."""
    return word if word in ("up", "down") else None


def name_in(word):
    """The name that a word is, or None."""
    return word if is_name(word) else None


def house_in(word):
    """The house of which a word is the text, or None."""
    # a line feed would be read as the end of a row
    if "\n" in word:
        return None
    try:
        return read_house(word.replace(";", "\n"))
    except (NoText, NoHouse):
        return None


READERS = {"new": name_in, "house": name_in, "keeper": name_in, "ledger": name_in, "name": name_in, "way": way_in,
           "number": number_in, "times": times_in, "swells": numbers_in, "stand": stand_in, "rows": house_in}


def words_of(row):
    """The words of a row, the text of a house one of them."""
    words = row.split(" ")
    wanted = wants_of(words[0])
    if wanted is not None and wanted[-1] == "rows":
        return row.split(" ", len(wanted))
    return words


def read_order(row):
    """The tuple (word, things ..) of a row."""
    if not isinstance(row, str):
        raise NoRow(0)
    words = words_of(row)
    wanted = wants_of(words[0])
    if wanted is None:
        raise NoRow(0)
    things = []
    for at, kind in enumerate(wanted, start=1):
        reader = READERS[kind]
        thing = reader(words[at]) if at < len(words) else None
        # a word that lacks stands where there are as many words as at
        if thing is None:
            raise NoRow(at)
        things.append(thing)
    if len(words) > len(things) + 1:
        raise NoRow(len(things) + 1)
    return (words[0], *things)


def show_swells(things):
    """A word of swells, or of names."""
    return ",".join([str(thing) for thing in things])


def show_latches(latches):
    """A word of a stand, or of latches."""
    return show_swells(latches) if latches else "-"


def show_rows(house):
    """The text of a house, in one word."""
    return show_house(house).replace("\n", ";")


def show_thing(kind, thing):
    """A word of a thing of a kind that is wanted."""
    if kind == "rows":
        return show_rows(thing)
    if kind == "stand":
        return show_latches(thing)
    if kind == "swells":
        return show_swells(thing)
    return str(thing)


def show_order(order):
    """The row of an order."""
    word, *things = order
    return " ".join([word] + [show_thing(kind, thing) for kind, thing in zip(wants_of(word), things)])


def is_deed(order):
    """Whether an order is a deed."""
    return order[0] in DEEDS
