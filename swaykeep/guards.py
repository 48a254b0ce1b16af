"""What is looked at in things that are handed in, and the refusals of those that are none.

A house is asked here only for its length, so that the file of houses can rest on this one.
"""

from swaykeep.errors import NoHistory, NoLatch, NoOrder, NoStand, NoSwell

MOST_LETTERS = 8


def is_whole(thing):
    """Whether a thing is a whole number: an int that is no truth."""
    return isinstance(thing, int) and not isinstance(thing, bool)


def is_latch(house, thing):
    """Whether a thing is the number of a latch of a house."""
    return is_whole(thing) and 0 <= thing < len(house)


def is_rising(thing):
    """Whether a thing is a stand of some house: a tuple of rising whole numbers from 0 on."""
    if not isinstance(thing, tuple):
        return False
    last = -1
    for latch in thing:
        if not isinstance(latch, int) or latch is True or latch is False or latch <= last:
            return False
        last = latch
    return True


def is_rising_below(thing, many):
    """Whether a thing is a stand of a house of so many latches."""
    return is_rising(thing) and (len(thing) == 0 or thing[-1] < many)


def are_whole(thing):
    """Whether a thing is a list of whole numbers."""
    return isinstance(thing, list) and all([is_whole(part) for part in thing])


def is_name(thing):
    """Whether a thing is a name: a text of one to eight small letters."""
    if not isinstance(thing, str) or len(thing) > MOST_LETTERS:
        return False
    return thing.isascii() and thing.isalpha() and thing.islower()


def is_order(house, thing):
    """Whether a thing is a tuple of all numbers of a house's latches, each once."""
    if not isinstance(thing, tuple) or not all([is_whole(latch) for latch in thing]):
        return False
    return sorted(thing) == list(range(len(house)))


def check_latch(house, latch):
    """Refuse what is no latch of a house."""
    if not is_latch(house, latch):
        raise NoLatch(latch)


def check_stand(house, stand):
    """Refuse what is no stand of a house."""
    if not is_rising_below(stand, len(house)):
        raise NoStand(stand)


def check_rising(stand):
    """Refuse what is a stand of no house."""
    if not is_rising(stand):
        raise NoStand(stand)


def check_swell(swell):
    """Refuse what is no swell."""
    if not is_whole(swell):
        raise NoSwell(swell)


def check_moment(house, stand, swell):
    """Refuse what is no stand of a house, then what is no swell."""
    check_stand(house, stand)
    check_swell(swell)


def check_order(house, order):
    """Refuse what is no order of all latches of a house."""
    if not is_order(house, order):
        raise NoOrder(order)


def check_swells(history):
    """Refuse a history in which something is no swell; an empty one is let through."""
    if not isinstance(history, (list, tuple)):
        raise NoHistory(0)
    for place, swell in enumerate(history):
        if not is_whole(swell):
            raise NoHistory(place)


def check_history(history):
    """Refuse a history that is empty, or in which something is no swell."""
    check_swells(history)
    if len(history) == 0:
        raise NoHistory(0)
