"""Houses made of a house: moved, turned, renamed; and the stand of all others."""

from swaykeep.guards import check_order, check_stand, check_swell
from swaykeep.houses import House


def moved(house, by):
    """The house whose up-numbers and down-numbers are all so many more."""
    check_swell(by)
    return House(tuple([(up + by, down + by) for up, down in house.latches()]), house.helps())


def turned(house):
    """The house in which a latch wants up where it wanted down, at the swell of the other sign."""
    latches = []
    for latch, (up, down) in enumerate(house.latches()):
        lent = house.all_help(latch)
        latches.append((lent - down, lent - up))
    return House(tuple(latches), house.helps())


def renamed(house, order):
    """The house whose latch k is this one's latch order[k]."""
    check_order(house, order)
    latches = house.latches()
    helps = [(order.index(one), order.index(other), many) for one, other, many in house.helps()]
    return House(tuple([latches[latch] for latch in order]), tuple(helps))


def others(house, stand):
    """The stand of all latches that are down in this one."""
    check_stand(house, stand)
    return tuple([latch for latch in range(len(house)) if latch not in stand])
