"""Stands led from swell to swell, and which stand passes which."""

from swaykeep.errors import NoHistory
from swaykeep.guards import check_history, check_moment, check_rising, check_stand, check_swell
from swaykeep.pulls import check_settled
from swaykeep.settling import end_of


def carried(house, stand, start, end):
    """The stand at the end of a leg, of things that are looked at before."""
    return end_of(house, stand, end, end >= start)


def check_start(house, stand, swell):
    """Refuse what no leg begins with."""
    check_moment(house, stand, swell)
    check_settled(house, stand, swell)


def check_leg(house, stand, start, end):
    """Refuse what is no leg."""
    check_moment(house, stand, start)
    check_swell(end)
    check_settled(house, stand, start)


def check_led(house, stand, history):
    """Refuse what is not led along a history."""
    check_stand(house, stand)
    check_history(history)
    check_settled(house, stand, history[0])


def leg(house, stand, start, end):
    """The stand to which one that is settled at the start is led at the end."""
    check_leg(house, stand, start, end)
    return carried(house, stand, start, end)


def led(house, stand, history):
    """The stands at each swell of a history, the first one too."""
    check_led(house, stand, history)
    stands = [stand]
    for start, end in zip(history, history[1:]):
        stands.append(carried(house, stands[-1], start, end))
    return stands


def there_and_back(house, stand, swell, far):
    """The stand at a far swell, and the one that comes back from there."""
    there = leg(house, stand, swell, far)
    return there, carried(house, there, far, swell)


def bears(house, stand, swell, far):
    """Whether a stand comes again from a far swell."""
    there_again = there_and_back(house, stand, swell, far)
    return there_again[1] == stand


def has_all(stand, latches):
    """Whether all of some latches are up in a stand."""
    return all([latch in stand for latch in latches])


def is_within(one, other):
    """Whether each latch that is up in the one stand is up in the other one."""
    check_rising(one)
    check_rising(other)
    return has_all(other, one)


def helped_no_less(house, other):
    """Whether the other house is helped no less than this one."""
    if len(house) != len(other):
        return False
    for (up, down), (other_up, other_down) in zip(house.latches(), other.latches()):
        if other_up > up or other_down > down:
            return False
    for row, other_row in zip(house.rows(), other.rows()):
        if row != other_row and any([other_many < many for many, other_many in zip(row, other_row)]):
            return False
    return True


def passing(house, stand, history, other, other_stand, other_history):
    """The first place at which the one's stand is not within the other's, or None."""
    stands = led(house, stand, history)
    other_stands = led(other, other_stand, other_history)
    if len(stands) != len(other_stands):
        raise NoHistory(min(len(stands), len(other_stands)))
    for place, (one, two) in enumerate(zip(stands, other_stands)):
        if not has_all(two, one):
            return place
    return None
