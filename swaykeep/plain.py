"""Plain houses, in which nobody lends, and the heaps of their latches."""

from swaykeep.errors import NoHeap
from swaykeep.guards import is_whole
from swaykeep.houses import MOST_LATCHES, House, is_pair
from swaykeep.swings import many_at


def is_plain(house):
    """Whether nobody lends."""
    return len(house.helps()) == 0


def heap_of(house):
    """The rising tuples (up-number, down-number, how many latches have both) of a plain house."""
    if not is_plain(house):
        raise NoHeap()
    many = many_at(house.latches())
    return sorted([(up, down, many[(up, down)]) for up, down in many])


def is_heap_row(thing):
    """Whether a thing tells how many latches have an up-number and a down-number: one at least."""
    if not isinstance(thing, tuple) or len(thing) != 3 or not is_whole(thing[2]):
        return False
    return is_pair(thing[:2]) and thing[2] > 0


def is_heap(thing):
    """Whether a thing is a heap of one to fourteen latches: rising rows, each pair once."""
    if not isinstance(thing, list) or not all([is_heap_row(row) for row in thing]):
        return False
    if any([row[:2] >= other[:2] for row, other in zip(thing, thing[1:])]):
        return False
    return 1 <= sum([many for _, _, many in thing]) <= MOST_LATCHES


def plain_house(heap):
    """The plain house of a heap, its latches in the heap's order."""
    if not is_heap(heap):
        raise NoHeap()
    return House(tuple([(up, down) for up, down, many in heap for _ in range(many)]))
