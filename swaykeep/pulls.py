"""What latches are lent and pulled by in a stand, which want to go, and where a stand is settled.

The functions above help_in refuse nothing: what they are handed is looked at before.
"""

from swaykeep.errors import Unsettled
from swaykeep.guards import check_latch, check_moment, check_stand, check_swell
from swaykeep.houses import FIELD, FIELD_BITS


def lent_to_all(house, stand):
    """What latches lend all, in one number: a field of it is the help of a latch."""
    numbers = house.numbers()
    return sum([numbers[one] for one in stand])


def lent_in(house, stand, latch):
    """The help of a latch in a stand."""
    return lent_to_all(house, stand) >> latch * FIELD_BITS & FIELD


def level_of(swell, up):
    """The level of a swell on a way: it rises on both ways."""
    return swell if up else -swell


def waiting_of(house, stand, up):
    """The pairs (need, latch) of the latches that could go that way, by numbers.

    A latch wants to go where the level is its need or more. Where other ones go, its need is less by what they lend
    it, on both ways.
    """
    lent = lent_to_all(house, stand)
    if up:
        return [(up_at - (lent >> at & FIELD), latch) for latch, at, up_at, _ in house.marks() if latch not in stand]
    return [((lent >> at & FIELD) - down_at, latch) for latch, at, _, down_at in house.marks() if latch in stand]


def eased(house, waiting, going):
    """What is left waiting where some of those that wait go."""
    lent = lent_to_all(house, going)
    return [(need - (lent >> latch * FIELD_BITS & FIELD), latch) for need, latch in waiting if latch not in going]


def wanting(house, stand, swell):
    """The latches that want up, and those that want down, rising."""
    lent = lent_to_all(house, stand)
    rising = []
    sinking = []
    for latch, at, up, down in house.marks():
        pulled = swell + (lent >> at & FIELD)
        if pulled >= up:
            if latch not in stand:
                rising.append(latch)
        elif pulled <= down and latch in stand:
            sinking.append(latch)
    return rising, sinking


def rests_by(house, stand, lent, swell):
    """Whether no latch wants to go, by what those that are up lend all."""
    for latch, at, up, down in house.marks():
        pulled = swell + (lent >> at & FIELD)
        if pulled >= up:
            if latch not in stand:
                return False
        elif pulled <= down and latch in stand:
            return False
    return True


def rests(house, stand, swell):
    """Whether no latch wants to go."""
    return rests_by(house, stand, lent_to_all(house, stand), swell)


def limits(house, stand):
    """The greatest swell that is needed and the least that is borne, None of none, also where they are crossed."""
    lent = lent_to_all(house, stand)
    low = high = None
    for latch, at, up, down in house.marks():
        if latch in stand:
            needs = down + 1 - (lent >> at & FIELD)
            if low is None or needs > low:
                low = needs
        else:
            bears = up - 1 - (lent >> at & FIELD)
            if high is None or bears < high:
                high = bears
    return low, high


def needed(house, stand, latch):
    """The least swell that a latch needs to stay up."""
    return house.down_at(latch) + 1 - lent_in(house, stand, latch)


def borne(house, stand, latch):
    """The greatest swell that a latch bears and stays down."""
    return house.up_at(latch) - 1 - lent_in(house, stand, latch)


def are_crossed(low, high):
    """Whether limits leave no swell between them."""
    return low is not None and high is not None and low > high


def check_settled(house, stand, swell):
    """Refuse a stand that is not settled at a swell."""
    if not rests(house, stand, swell):
        rising, sinking = wanting(house, stand, swell)
        raise Unsettled(min(rising + sinking), swell)


def help_in(house, stand, latch):
    """The help of a latch in a stand: what those that are up lend it."""
    check_stand(house, stand)
    check_latch(house, latch)
    return lent_in(house, stand, latch)


def pull(house, stand, latch, swell):
    """The pull of a latch in a stand at a swell."""
    check_stand(house, stand)
    check_latch(house, latch)
    check_swell(swell)
    return swell + lent_in(house, stand, latch)


def wants(house, stand, swell):
    """The latches that want up, and those that want down."""
    check_moment(house, stand, swell)
    return wanting(house, stand, swell)


def is_settled(house, stand, swell):
    """Whether a stand is settled at a swell."""
    check_moment(house, stand, swell)
    return rests(house, stand, swell)


def span(house, stand):
    """The tuple (low, high) of the swells at which a stand is settled, or None where there is none."""
    check_stand(house, stand)
    low, high = limits(house, stand)
    if are_crossed(low, high):
        return None
    return low, high


def torn(house, stand):
    """The paper ("torn", one, other) of a stand that is settled nowhere, else None."""
    check_stand(house, stand)
    low, high = limits(house, stand)
    if not are_crossed(low, high):
        return None
    # on its way down the latch that needs most is the one with the least need, and so is that which bears least up
    one = min(waiting_of(house, stand, False))[1]
    other = min(waiting_of(house, stand, True))[1]
    return "torn", one, other
