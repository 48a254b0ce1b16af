"""Rises of closed swings: how many more latches are up at their high swell, and whether rises are alike.

What is up behind a leg up from () at the floor changes at few swells alone, and so does what is left of it where it is
led down again. Between these swells rises are told by pieces: tuples (begin, end, drops), begin and end the first and
the last high swell at which these latches are up, drops the tuples (swell, many) of how many of them go down where.
The functions above first_rise refuse great houses alone: what else they are handed is looked at before.
"""

from swaykeep.errors import NoSwell, NotAlike, TooMany
from swaykeep.falls import floor, roof
from swaykeep.guards import check_history, check_swell
from swaykeep.pulls import limits, rests
from swaykeep.reach import Moves, turns_to_all
from swaykeep.residues import residue
from swaykeep.settling import end_of

MOST_LATCHES_OF_RISES = 8
MOST_STANDS_OF_RISES = 256
MOST_APART_OF_RISES = 100


def small_ends(house):
    """The floor and the roof of a house; one of too many latches is refused, then one whose ends are too far apart."""
    if len(house) > MOST_LATCHES_OF_RISES:
        raise TooMany(MOST_LATCHES_OF_RISES)
    ends = floor(house), roof(house)
    if ends[1] - ends[0] > MOST_APART_OF_RISES:
        raise TooMany(MOST_APART_OF_RISES)
    return ends


def rise_by_first(house, low, high):
    """The rise of the first swing between two swells, 0 where low isn't below high: no leg down leads there."""
    there = end_of(house, (), high, True)
    return len(there) - len(end_of(house, there, low, False))


def drops_of(moves, stand):
    """The tuples (swell, many) of how many go down at which swell of a leg down from a stand."""
    found = []
    for swell, there in moves.all_steps(stand, False):
        found.append((swell, len(stand) - len(there)))
        stand = there
    return found


def pieces_of(moves, ends):
    """The pieces of the rises of first swings, from the floor to the roof."""
    steps = [(ends[0], ())] + moves.all_steps((), True)
    lasts = [swell - 1 for swell, _ in steps[1:]] + [ends[1]]
    return [(begin, last, drops_of(moves, stand)) for (begin, stand), last in zip(steps, lasts)]


def dropped(drops, low):
    """How many have gone down at a swell."""
    return sum([many for swell, many in drops if swell >= low])


def rise_by(pieces, low, high):
    """The rise between two swells; one below the floor counts as the floor, one above the roof as the roof."""
    low = max(low, pieces[0][0])
    high = min(high, pieces[-1][1])
    if low >= high:
        return 0
    drops = [piece[2] for piece in pieces if piece[0] <= high][-1]
    return dropped(drops, low)


def corners(up, down):
    """The four (low, high) of which the second difference of the rises tells how many a pair has."""
    return [(down, up), (down + 1, up), (down, up - 1), (down + 1, up - 1)]


def swings_from(house, moves, stand, ends):
    """The closed swings of a stand: tuples (low, last low, high, last high, rise), all that lie between alike.

    Of those on which nothing moves only the ones at the stand's lower end are told: where others rise unlike first
    swings, so do these.
    """
    low, high = limits(house, stand)
    low = ends[0] if low is None else low
    high = ends[1] if high is None else high
    found = [(low, low, low + 1, high, 0)]
    steps = moves.all_steps(stand, True)
    lasts = [swell - 1 for swell, _ in steps[1:]] + [ends[1]]
    for (swell, there), last in zip(steps, lasts):
        back = [at for at, again in moves.all_steps(there, False) if again == stand]
        # what it does not bear, it bears no farther swell
        if not back:
            break
        found.append((low, back[0], swell, last, len(there) - len(stand)))
    return found


def unlike_in(pieces, swing):
    """The tuples (low, high) of swings between alike ones of a stand that may be the first to rise unlike first swings.

    A rise of first swings changes with low behind a drop alone.
    """
    low, last_low, high, last_high, rise = swing
    found = []
    for begin, end, drops in pieces:
        if begin <= last_high and high <= end:
            nears = [low] + [swell + 1 for swell, _ in drops if low <= swell < last_low]
            found.extend([(near, max(high, begin)) for near in nears if dropped(drops, near) != rise])
    return found


def first_unlike(house, moves, pieces, ends):
    """The first (low, high, stand): between these the stand's swing rises unlike the first swing; None of none."""
    found = []
    for stand in turns_to_all(moves, MOST_STANDS_OF_RISES):
        for swing in swings_from(house, moves, stand, ends):
            found.extend([(low, high, stand) for low, high in unlike_in(pieces, swing)])
    return min(found) if found else None


def looked_through(house, ends):
    """The pieces of a house's first rises, and the first swing that rises unlike them, or None."""
    moves = Moves(house)
    pieces = pieces_of(moves, ends)
    return pieces, first_unlike(house, moves, pieces, ends)


def pieces_alike(house, ends):
    """The pieces of a house's rises; one of which they are not alike is refused."""
    pieces, unlike = looked_through(house, ends)
    if unlike is not None:
        raise NotAlike(unlike[0], unlike[1])
    return pieces


def check_swing(house, low, high):
    """Refuse a house that is too great, then what are not two swells, the high one above the low one."""
    small_ends(house)
    check_swell(low)
    check_swell(high)
    if high <= low:
        raise NoSwell(high)


def first_rise(house, low, high):
    """The rise of the first swing between two swells."""
    check_swing(house, low, high)
    return rise_by_first(house, low, high)


def is_closed(house, stand, low, high):
    """Whether a stand is settled at low and bears high from there."""
    return rests(house, stand, low) and end_of(house, end_of(house, stand, high, True), low, False) == stand


def closed_swings(house, low, high):
    """The sorted stands of closed swings between two swells that can be come to from rest."""
    check_swing(house, low, high)
    stands = turns_to_all(Moves(house), MOST_STANDS_OF_RISES)
    return sorted([stand for stand in stands if is_closed(house, stand, low, high)])


def rises(house):
    """The tuples (low, high, rise) for all low below high from the floor to the roof, in order."""
    ends = small_ends(house)
    pieces = pieces_alike(house, ends)
    told = []
    for low in range(ends[0], ends[1]):
        for begin, end, drops in pieces:
            rise = dropped(drops, low)
            told.extend([(low, high, rise) for high in range(max(begin, low + 1), end + 1)])
    return told


def counted(house, history):
    """How many are up behind a history that is led on from () at the floor, by rises."""
    ends = small_ends(house)
    check_history(history)
    pieces = pieces_alike(house, ends)
    many = 0
    last = ends[0]
    for swell in residue(history, ahead="below"):
        many = many + rise_by(pieces, last, swell) - rise_by(pieces, swell, last)
        last = swell
    return many
