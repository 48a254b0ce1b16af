"""The judge of the papers that show that a stand is settled nowhere."""

from swaykeep.guards import check_stand, is_latch
from swaykeep.pulls import borne, needed


def is_torn_paper(house, thing):
    """Whether a thing has the form of a paper ("torn", one, other)."""
    if not isinstance(thing, tuple) or len(thing) != 3:
        return False
    word, one, other = thing
    return isinstance(word, str) and word == "torn" and is_latch(house, one) and is_latch(house, other)


def torn_shows(house, stand, paper):
    """Whether a thing is a paper that shows that a stand is settled nowhere."""
    check_stand(house, stand)
    if not is_torn_paper(house, paper):
        return False
    _, one, other = paper
    if one not in stand or other in stand:
        return False
    return needed(house, stand, one) > borne(house, stand, other)
