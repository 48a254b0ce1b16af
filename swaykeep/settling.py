"""Climbing and sinking at a swell, their rows, waves and papers, and the stands that are settled there.

The functions above looked_at_row refuse nothing: what they are handed is looked at before.
"""

from swaykeep.errors import TooMany
from swaykeep.guards import check_moment, check_order, check_stand, check_swell
from swaykeep.houses import FIELD, FIELD_BITS
from swaykeep.pulls import check_settled, eased, lent_to_all, level_of, rests_by, waiting_of

MOST_LATCHES_OF_ALL_STANDS = 10


def gone(stand, latches, up):
    """The stand that comes where latches go that way."""
    if up:
        return tuple(sorted([*stand, *latches]))
    return tuple([latch for latch in stand if latch not in latches])


def waves_at(house, waiting, level):
    """The rising lists of those that wait and go at once at a level, again and again, and what is left waiting."""
    waves = []
    going = [latch for need, latch in waiting if need <= level]
    while going:
        waves.append(going)
        waiting = eased(house, waiting, going) if len(going) < len(waiting) else []
        going = [latch for need, latch in waiting if need <= level]
    return waves, waiting


def waves_of(house, stand, swell, up):
    """The rising lists of latches that go at once, again and again."""
    waves, _ = waves_at(house, waiting_of(house, stand, up), level_of(swell, up))
    return waves


def end_of(house, stand, swell, up):
    """The stand in which none wants to go that way any more."""
    waves, waiting = waves_at(house, waiting_of(house, stand, up), level_of(swell, up))
    if not up:
        return tuple([latch for _, latch in waiting])
    return gone(stand, [latch for wave in waves for latch in wave], True)


def first_going(waiting, lent, level):
    """The place of the first one that waits and goes at a level, where so much more is lent to all; else None."""
    for place, (need, latch) in enumerate(waiting):
        if need - (lent >> latch * FIELD_BITS & FIELD) <= level:
            return place
    return None


def row_of(house, stand, swell, order, up):
    """The pairs (need, latch) in the row in which they go, the first one in the order that wants each time.

    Told with what is left waiting, by the order; each need is that of the time when the latch goes, or of the end.
    """
    level = level_of(swell, up)
    numbers = house.numbers()
    needs = {latch: need for need, latch in waiting_of(house, stand, up)}
    waiting = [(needs[latch], latch) for latch in order if latch in needs]
    lent = 0
    row = []
    place = first_going(waiting, lent, level)
    while place is not None:
        need, latch = waiting.pop(place)
        row.append((need - (lent >> latch * FIELD_BITS & FIELD), latch))
        lent = lent + numbers[latch]
        place = first_going(waiting, lent, level)
    return row, [(need - (lent >> latch * FIELD_BITS & FIELD), latch) for need, latch in waiting]


def with_pulls(house, pairs, swell, up):
    """The tuples (latch, pull) of pairs (need, latch)."""
    marks = house.marks()
    if up:
        return tuple([(latch, swell + marks[latch][2] - need) for need, latch in pairs])
    return tuple([(latch, swell + marks[latch][3] + need) for need, latch in pairs])


def looked_at_row(house, stand, swell, order, up):
    """The row of latches, of things that are looked at first."""
    check_moment(house, stand, swell)
    if order is None:
        order = tuple(range(len(house)))
    check_order(house, order)
    row, _ = row_of(house, stand, swell, order, up)
    return [latch for _, latch in row]


def paper_of(word, house, stand, swell, up):
    """The paper of latches that went and stayed, with the pull of each."""
    check_moment(house, stand, swell)
    row, waiting = row_of(house, stand, swell, tuple(range(len(house))), up)
    return word, with_pulls(house, row, swell, up), with_pulls(house, waiting, swell, up)


def climbed(house, stand, swell):
    """The stand that comes where all that want up, go up."""
    check_moment(house, stand, swell)
    return end_of(house, stand, swell, True)


def sunk(house, stand, swell):
    """The stand that comes where all that want down, go down."""
    check_moment(house, stand, swell)
    return end_of(house, stand, swell, False)


def climb_row(house, stand, swell, *, order=None):
    """The row in which latches go up, by an order of all latches."""
    return looked_at_row(house, stand, swell, order, True)


def sink_row(house, stand, swell, *, order=None):
    """The row in which latches go down, by an order of all latches."""
    return looked_at_row(house, stand, swell, order, False)


def climb_waves(house, stand, swell):
    """The waves in which latches go up."""
    check_moment(house, stand, swell)
    return waves_of(house, stand, swell, True)


def sink_waves(house, stand, swell):
    """The waves in which latches go down."""
    check_moment(house, stand, swell)
    return waves_of(house, stand, swell, False)


def up_first(house, stand, swell):
    """The settled stand that comes by climbing, then sinking."""
    return sunk(house, climbed(house, stand, swell), swell)


def down_first(house, stand, swell):
    """The settled stand that comes by sinking, then climbing."""
    return climbed(house, sunk(house, stand, swell), swell)


def climb_paper(house, stand, swell):
    """The paper of climbing."""
    return paper_of("climbed", house, stand, swell, True)


def sink_paper(house, stand, swell):
    """The paper of sinking."""
    return paper_of("sunk", house, stand, swell, False)


def least_at(house, swell):
    """The least stand that is settled at a swell."""
    return climbed(house, (), swell)


def greatest_at(house, swell):
    """The greatest stand that is settled at a swell."""
    return sunk(house, tuple(range(len(house))), swell)


def check_both(house, swell, one, other):
    """Refuse two stands that are not both settled at a swell."""
    check_stand(house, one)
    check_stand(house, other)
    check_swell(swell)
    check_settled(house, one, swell)
    check_settled(house, other, swell)


def joined(house, swell, one, other):
    """The least settled stand that has both stands."""
    check_both(house, swell, one, other)
    both = gone(one, [latch for latch in other if latch not in one], True)
    return end_of(house, both, swell, True)


def met(house, swell, one, other):
    """The greatest settled stand within both stands."""
    check_both(house, swell, one, other)
    common = tuple([latch for latch in one if latch in other])
    return end_of(house, common, swell, False)


def settled_at(house, swell):
    """All stands that are settled at a swell, sorted as tuples."""
    check_swell(swell)
    if len(house) > MOST_LATCHES_OF_ALL_STANDS:
        raise TooMany(MOST_LATCHES_OF_ALL_STANDS)
    # each of them has the least one, and stands within the greatest one
    least = end_of(house, (), swell, True)
    greatest = end_of(house, tuple(range(len(house))), swell, False)
    numbers = house.numbers()
    stands = [(least, lent_to_all(house, least))]
    for latch in gone(greatest, least, False):
        stands = stands + [((*stand, latch), lent + numbers[latch]) for stand, lent in stands]
    return sorted([tuple(sorted(stand)) for stand, lent in stands if rests_by(house, stand, lent, swell)])
