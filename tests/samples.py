"""What the tests share: small houses, strange things, and a slow model written by the document's words."""

from itertools import combinations, permutations

from swaykeep.errors import SwayError
from swaykeep.houses import House

BIG = 10 ** 29



class Angry:
    """Something that must not be compared with anything."""

    __hash__ = None

    def __eq__(self, other):
        raise AssertionError("compared")


class Yes:
    """Something that is equal to everything."""

    __hash__ = None

    def __eq__(self, other):
        return True


# what stands in the place of a paper's words
NO_WORDS = (Angry(), Yes(), None, True, 0, b"", (), [])

# things of any kind: none of them is a stand, a whole number, an order, a paper or a text of a house
STRANGE = (None, True, False, 1.0, "0", "", b"0", [], [0], {}, {0: 1}, {0}, object, object(), (None,), ("0",),
           (True,), (False,), (0.0,), ([0],), ((0,),), (0, (1,)), [[[]]], ((), ()), float("nan"), range(2), 1j,
           Angry(), Yes(), (Angry(),), (Yes(),), {5: 0, 6: 0})


class Numbers:
    """Numbers that look like chance and are the same each time."""

    def __init__(self, seed):
        self.state = seed * 2654435761 % 2 ** 32 + 1

    def below(self, many):
        self.state = (self.state * 6364136223846793005 + 1442695040888963407) % 2 ** 64
        return (self.state >> 33) % many

    def between(self, low, high):
        return low + self.below(high - low + 1)


def some_house(seed, latches=None, helps=None):
    """A house of some latches that help one another."""
    numbers = Numbers(seed)
    many = latches or numbers.between(1, 4)
    pairs = []
    for _ in range(many):
        down = numbers.between(-6, 6)
        pairs.append((down + numbers.between(1, 7), down))
    all_pairs = [(one, other) for one in range(many) for other in range(many) if one != other]
    wanted = numbers.below(len(all_pairs) + 1) if helps is None else helps
    lent = []
    while len(lent) < min(wanted, len(all_pairs)):
        pair = all_pairs.pop(numbers.below(len(all_pairs)))
        lent.append((*pair, numbers.between(1, 9)))
    return House(tuple(pairs), tuple(lent))


def some_houses(many, latches=None):
    return [some_house(seed, latches) for seed in range(many)]


def some_history(seed, many, low=-25, high=15):
    numbers = Numbers(seed + 1000)
    return [numbers.between(low, high) for _ in range(many)]


def all_of(house):
    return tuple(range(len(house)))


def all_stands(house):
    return [stand for many in range(len(house) + 1) for stand in combinations(all_of(house), many)]


def orders(house, most=6):
    return list(permutations(all_of(house)))[:most] + list(permutations(all_of(house)))[-most:]


def slow_pull(house, stand, latch, swell):
    return swell + sum(many for one, other, many in house.helps() if other == latch and one in stand)


def slow_wants(house, stand, swell):
    up, down = [], []
    for latch, (up_number, down_number) in enumerate(house.latches()):
        pulled = slow_pull(house, stand, latch, swell)
        if latch not in stand and pulled >= up_number:
            up.append(latch)
        if latch in stand and pulled <= down_number:
            down.append(latch)
    return up, down


def slow_settled(house, swell):
    return sorted(stand for stand in all_stands(house) if slow_wants(house, stand, swell) == ([], []))


def slow_row(house, stand, swell, order, up):
    """Latches go one at a time: the first one in the order that wants, until none does."""
    row = []
    while True:
        going = [latch for latch in order if latch in slow_wants(house, stand, swell)[0 if up else 1]]
        if not going:
            return row, stand
        row.append(going[0])
        stand = tuple(sorted(set(stand) ^ {going[0]}))


def slow_leg(house, stand, start, end, order=None):
    return slow_row(house, stand, end, order or all_of(house), end >= start)[1]


def slow_falls(house, stand, start, end):
    """Led from each whole swell to the next one, what goes at each."""
    step = 1 if end >= start else -1
    found = []
    for swell in range(start + step, end + step, step) if start != end else []:
        after = slow_leg(house, stand, swell - step, swell)
        if after != stand:
            found.append((swell, tuple(sorted(set(after) ^ set(stand)))))
        stand = after
    return found, stand


def slow_swells(house):
    """All whole swells from one at which none is up to one at which all are."""
    most = max(sum(many for _, other, many in house.helps() if other == latch) for latch in all_of(house))
    return range(min(down for _, down in house.latches()) - most, max(up for up, _ in house.latches()) + 1)


def slow_chain(house, stand, up):
    """The stands behind each fall of a leg led on and on, swell by swell; None of one that is settled nowhere."""
    swells = slow_swells(house)
    at = next((swell for swell in swells if slow_wants(house, stand, swell) == ([], [])), None)
    if at is None:
        return None
    chain = []
    for _, latches in slow_falls(house, stand, at, swells[-1] if up else swells[0])[0]:
        stand = tuple(sorted(set(stand) ^ set(latches)))
        chain.append(stand)
    return chain


def slow_graph(house):
    """For each stand that is settled at some swell, by way, the stands behind each fall of a leg led on and on."""
    found = {stand: {up: slow_chain(house, stand, up) for up in (True, False)} for stand in all_stands(house)}
    return {stand: chains for stand, chains in found.items() if chains[True] is not None}


def slow_turns(graph, start):
    """For each stand that can be come to from a start the fewest legs that do it, all histories tried by levels."""
    turns = {start: 0}
    levels = {True: {start}, False: {start}}
    ahead = []
    # levels that stood ahead already lead to nothing new
    while levels not in ahead:
        ahead.append(levels)
        levels = {up: {there for stand in levels[not up] for there in graph[stand][up]} for up in (True, False)}
        for stand in levels[True] | levels[False]:
            turns.setdefault(stand, len(ahead))
    return turns


def slow_reach(graph, start):
    """All stands that can be come to from a start."""
    found = {start}
    waiting = [start]
    while waiting:
        for chain in graph[waiting.pop()].values():
            waiting.extend(set(chain) - found)
            found.update(chain)
    return found


def slow_islands(graph):
    """For each stand all those with which it comes to one another."""
    reach = {stand: slow_reach(graph, stand) for stand in graph}
    return {stand: sorted(there for there in reach[stand] if stand in reach[there]) for stand in graph}


class Refusals:
    """Beside a TestCase: refused(error, fields, deed) where a deed is refused with just this."""

    def refused(self, error, fields, deed):
        with self.assertRaises(SwayError) as caught:
            deed()
        told = caught.exception
        self.assertIs(error, told.__class__)
        self.assertEqual(list(fields), list(vars(told)))
        for name, worth in fields.items():
            kept = getattr(told, name)
            self.assertTrue(kept is worth or (kept.__class__ is worth.__class__ and kept == worth), (name, kept))
