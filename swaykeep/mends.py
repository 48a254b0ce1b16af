"""Mends: a new house in the place of an old one, of what kind it is, and the stand that it leaves."""

from swaykeep.errors import NoMend
from swaykeep.legs import check_start, helped_no_less
from swaykeep.settling import end_of


def kind_of_mend(old, new):
    """The word of a mend: "same", "help", "hinder" or "both"."""
    if len(old) != len(new):
        raise NoMend("many", len(new))
    if old == new:
        return "same"
    if helped_no_less(old, new):
        return "help"
    if helped_no_less(new, old):
        return "hinder"
    return "both"


def gets_worse(old, new, latch):
    """Whether a number of a latch is greater in the new house, or another one lends it less there."""
    if new.up_at(latch) > old.up_at(latch) or new.down_at(latch) > old.down_at(latch):
        return True
    return any([new_row[latch] < row[latch] for row, new_row in zip(old.rows(), new.rows())])


def mended(old, new, swell, stand):
    """The stand that a mend leaves of one that is settled in the old house at a swell."""
    check_start(old, stand, swell)
    kind = kind_of_mend(old, new)
    if kind == "both":
        raise NoMend("both", min([latch for latch in range(len(old)) if gets_worse(old, new, latch)]))
    if kind == "same":
        return stand
    return end_of(new, stand, swell, kind == "help")
