"""The judge of the papers of whether a house is like a plain one."""

from swaykeep.falls import floor
from swaykeep.guards import are_whole, is_whole
from swaykeep.judge_apart import led_to, table_holds
from swaykeep.legs import carried
from swaykeep.plain import is_heap, plain_house
from swaykeep.rises import corners, rise_by_first


def rise_behind(house, low, high, history):
    """The rise of the closed swing with which a history ends, or None where it does not end so."""
    if history[-3:] != [low, high, low] or history[0] != floor(house):
        return None
    stand = led_to(house, (), history[:-2])
    far = carried(house, stand, low, high)
    return len(far) - len(stand) if carried(house, far, high, low) == stand else None


def unlike_shows(house, low, high, history, other):
    """Whether two histories show that closed swings between two swells rise unlike."""
    if not is_whole(low) or not is_whole(high) or low >= high:
        return False
    if not are_whole(history) or not are_whole(other):
        return False
    rise = rise_behind(house, low, high, history)
    other_rise = rise_behind(house, low, high, other)
    return rise is not None and other_rise is not None and rise != other_rise


def below_shows(house, up, down, four):
    """Whether four rises show that a pair of a plain house had fewer than none."""
    if not is_whole(up) or not is_whole(down) or not isinstance(four, tuple) or len(four) != 4:
        return False
    rises_there = [rise_by_first(house, low, high) for low, high in corners(up, down)]
    if not are_whole(list(four)) or list(four) != rises_there:
        return False
    return four[0] - four[1] - four[2] + four[3] < 0


def like_holds(house, paper):
    """Whether a thing is a paper that shows whether a house is like a plain one."""
    if not isinstance(paper, tuple) or len(paper) == 0 or not isinstance(paper[0], str):
        return False
    if paper[0] == "plain" and len(paper) == 3:
        return is_heap(paper[1]) and table_holds(house, plain_house(paper[1]), ((), ()), paper[2])
    if paper[0] == "unlike" and len(paper) == 5:
        return unlike_shows(house, paper[1], paper[2], paper[3], paper[4])
    if paper[0] == "below" and len(paper) == 4:
        return below_shows(house, paper[1], paper[2], paper[3])
    return False
