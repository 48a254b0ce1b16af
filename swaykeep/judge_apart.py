"""The judge of the papers of two houses that are told apart, or never are."""

from swaykeep.apart import Pairs, is_alike
from swaykeep.guards import are_whole, check_stand, check_swell
from swaykeep.houses import is_stand
from swaykeep.legs import carried
from swaykeep.pulls import limits, rests


def share_a_swell(house, other, pair):
    """Whether both stands of a pair are settled at a common swell."""
    lows = []
    highs = []
    for low, high in (limits(house, pair[0]), limits(other, pair[1])):
        if low is not None:
            lows.append(low)
        if high is not None:
            highs.append(high)
    return not lows or not highs or max(lows) <= min(highs)


def is_alike_pair(house, other, thing):
    """Whether a thing is a pair of stands that are settled at a common swell, as many up in both."""
    if not isinstance(thing, tuple) or len(thing) != 2:
        return False
    if not is_stand(house, thing[0]) or not is_stand(other, thing[1]):
        return False
    return is_alike(thing) and share_a_swell(house, other, thing)


def table_holds(house, other, first, table):
    """Whether a thing is a table that shows that no history parts a pair."""
    if not isinstance(table, list) or not all([is_alike_pair(house, other, pair) for pair in table]):
        return False
    known = {pair: True for pair in table}
    if first not in known:
        return False
    pairs = Pairs(house, other)
    for pair in known:
        for up in (True, False):
            found = pairs.step(pair, up)
            if found is not None and found[1] not in known:
                return False
    return True


def is_triple(house, other, thing):
    """Whether a thing is a tuple (way, stand, other stand) of a layer, as many up in both stands."""
    if not isinstance(thing, tuple) or len(thing) != 3 or not isinstance(thing[0], str):
        return False
    return thing[0] in ("up", "down") and is_alike_pair(house, other, thing[1:])


def is_layer(house, other, thing):
    """Whether a thing is a list of such tuples."""
    return isinstance(thing, list) and all([is_triple(house, other, row) for row in thing])


def goes_on_in(pairs, begun, layer):
    """Whether the next pairs of pairs, each the way that stands with it, are in a layer or there is none."""
    for up, pair in begun:
        found = pairs.step(pair, up)
        if found is not None and (up, found[1]) not in layer:
            return False
    return True


def layers_hold(house, other, first, layers):
    """Whether things are layers that go on from a first pair."""
    if not all([is_layer(house, other, layer) for layer in layers]):
        return False
    pairs = Pairs(house, other)
    begun = [(True, first), (False, first)]
    for rows in layers:
        layer = {(way == "up", (one, two)): True for way, one, two in rows}
        if not goes_on_in(pairs, begun, layer) or not goes_on_in(pairs, list(layer), layer):
            return False
        begun = [(not up, pair) for up, pair in layer]
    return True


def led_to(house, stand, history):
    """The stand behind a history."""
    for start, end in zip(history, history[1:]):
        stand = carried(house, stand, start, end)
    return stand


def parts(house, other, first, swell, history):
    """Whether a thing is a history from a swell that parts a pair, which is alike itself where there is a leg."""
    if not are_whole(history) or len(history) == 0 or history[0] != swell:
        return False
    if len(history) > 1 and not is_alike(first):
        return False
    return not is_alike((led_to(house, first[0], history), led_to(other, first[1], history)))


def apart_shows(house, stand, other, there, swell, paper):
    """Whether a thing is a paper that shows that two stands are told apart, or that they never are."""
    check_stand(house, stand)
    check_stand(other, there)
    check_swell(swell)
    if not rests(house, stand, swell) or not rests(other, there, swell):
        return False
    if not isinstance(paper, tuple) or len(paper) not in (2, 3) or not isinstance(paper[0], str):
        return False
    first = (stand, there)
    if len(paper) == 2:
        return paper[0] == "alike" and table_holds(house, other, first, paper[1])
    word, history, layers = paper
    if word != "apart" or not isinstance(layers, list) or not parts(house, other, first, swell, history):
        return False
    return len(layers) == max(0, len(history) - 2) and layers_hold(house, other, first, layers)
