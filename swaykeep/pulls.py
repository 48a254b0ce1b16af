"""What latches are lent and pulled by in a stand, which want to go, and where a stand is settled.

The functions above help_in refuse nothing: what they are handed is looked at before.
"""

from swaykeep.errors import Unsettled
from swaykeep.guards import check_latch, check_moment, check_stand, check_swell


def lent_in(house, stand, latch):
    """The help of a latch in a stand."""
    return sum([many for one, many in house.lenders(latch) if one in stand])


def movable(house, stand, up):
    """The latches that could go that way: those that are down could go up, those that are up down."""
    return [latch for latch in range(len(house)) if (latch in stand) != up]


def would_go(house, stand, swell, latch, up):
    """Whether a latch is pulled enough to go that way, or little enough."""
    pulled = swell + lent_in(house, stand, latch)
    if up:
        return pulled >= house.up_at(latch)
    return pulled <= house.down_at(latch)


def wanting(house, stand, swell, up):
    """The latches that want to go that way, rising."""
    return [latch for latch in movable(house, stand, up) if would_go(house, stand, swell, latch, up)]


def needed(house, stand, latch):
    """The least swell that a latch needs to stay up."""
    return house.down_at(latch) + 1 - lent_in(house, stand, latch)


def borne(house, stand, latch):
    """The greatest swell that a latch bears and stays down."""
    return house.up_at(latch) - 1 - lent_in(house, stand, latch)


def limits(house, stand):
    """The greatest swell that is needed and the least that is borne, None of none, also where they are crossed."""
    needs = [needed(house, stand, latch) for latch in movable(house, stand, False)]
    most = [borne(house, stand, latch) for latch in movable(house, stand, True)]
    return max(needs, default=None), min(most, default=None)


def are_crossed(low, high):
    """Whether limits leave no swell between them."""
    return low is not None and high is not None and low > high


def rests(house, stand, swell):
    """Whether no latch wants to go."""
    return not wanting(house, stand, swell, True) and not wanting(house, stand, swell, False)


def check_settled(house, stand, swell):
    """Refuse a stand that is not settled at a swell."""
    going = wanting(house, stand, swell, True) + wanting(house, stand, swell, False)
    if going:
        raise Unsettled(min(going), swell)


def help_in(house, stand, latch):
    """The help of a latch in a stand: what those that are up lend it."""
    check_stand(house, stand)
    check_latch(house, latch)
    return lent_in(house, stand, latch)


def pull(house, stand, latch, swell):
    """The pull of a latch in a stand at a swell."""
    check_stand(house, stand)
    check_latch(house, latch)
    check_swell(swell)
    return swell + lent_in(house, stand, latch)


def wants(house, stand, swell):
    """The latches that want up, and those that want down."""
    check_moment(house, stand, swell)
    return wanting(house, stand, swell, True), wanting(house, stand, swell, False)


def is_settled(house, stand, swell):
    """Whether a stand is settled at a swell."""
    check_moment(house, stand, swell)
    return rests(house, stand, swell)


def span(house, stand):
    """The tuple (low, high) of the swells at which a stand is settled, or None where there is none."""
    check_stand(house, stand)
    low, high = limits(house, stand)
    if are_crossed(low, high):
        return None
    return low, high


def torn(house, stand):
    """The paper ("torn", one, other) of a stand that is settled nowhere, else None."""
    check_stand(house, stand)
    low, high = limits(house, stand)
    if not are_crossed(low, high):
        return None
    one = min([latch for latch in movable(house, stand, False) if needed(house, stand, latch) == low])
    other = min([latch for latch in movable(house, stand, True) if borne(house, stand, latch) == high])
    return "torn", one, other
