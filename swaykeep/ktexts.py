"""Keepers written as texts, and read back."""

from swaykeep.errors import NoText
from swaykeep.htexts import read_house, read_numbers, show_house
from swaykeep.houses import is_stand
from swaykeep.keepers import kept_along
from swaykeep.pulls import rests
from swaykeep.residues import residue_of


def show_row(word, numbers):
    """A row of a word and of numbers, with its end."""
    return " ".join([word] + [str(number) for number in numbers]) + "\n"


def show_keeper(keeper):
    """The text of a Keeper."""
    stand, swell = keeper.base()
    return show_house(keeper.house_now()) + show_row("base", [swell, *stand]) + show_row("residue", keeper.residue())


def base_place(rows):
    """The place of the first row that begins as a base's, or None where there is none."""
    for place, row in enumerate(rows):
        if row.startswith("base "):
            return place
    return None


def numbers_at(rows, place, word):
    """The numbers of the row at a place, or None where no such row stands; the last one of rows has no end."""
    words = rows[place].split(" ")
    if place == len(rows) - 1 or words[0] != word or len(words) == 1:
        return None
    return read_numbers(words[1:])


def is_base(house, numbers):
    """Whether numbers are a swell and the latches of a stand that is settled there."""
    return is_stand(house, numbers[1:]) and rests(house, numbers[1:], numbers[0])


def read_keeper(text):
    """The Keeper of a text."""
    if not isinstance(text, str):
        raise NoText(1)
    rows = text.split("\n")
    place = base_place(rows)
    if place is None:
        read_house(text)
        raise NoText(len(rows))
    house = read_house("".join([f"{row}\n" for row in rows[:place]]))
    base = numbers_at(rows, place, "base")
    if base is None or not is_base(house, base):
        raise NoText(place + 1)
    left = numbers_at(rows, place + 1, "residue")
    if left is None or left[0] != base[0] or list(left) != residue_of(left):
        raise NoText(place + 2)
    # behind the last row nothing stands but its end
    if rows[place + 2:] != [""]:
        raise NoText(place + 3)
    return kept_along(house, base[1:], left)
