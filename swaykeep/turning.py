"""Houses made of a house: moved, turned, renamed; and the stand of all others."""

from swaykeep.guards import check_order, check_stand, check_swell
from swaykeep.houses import FIELD


def moved(house, by):
    """The house whose up-numbers and down-numbers are all so many more."""
    check_swell(by)
    return house.with_latches(tuple([(up + by, down + by) for up, down in house.latches()]))


def turned(house):
    """The house in which a latch wants up where it wanted down, at the swell of the other sign."""
    lent = sum(house.numbers())
    return house.with_latches(tuple([((lent >> at & FIELD) - down, (lent >> at & FIELD) - up)
                                     for _, at, up, down in house.marks()]))


def renamed(house, order):
    """The house whose latch k is this one's latch order[k]."""
    check_order(house, order)
    return house.put_in_order(order)


def others(house, stand):
    """The stand of all latches that are down in this one."""
    check_stand(house, stand)
    return tuple([latch for latch in range(len(house)) if latch not in stand])
