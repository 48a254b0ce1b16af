"""Houses of latches that help one another, and their stands."""

from swaykeep.errors import NoHouse
from swaykeep.guards import check_latch, is_rising_below, is_whole

MOST_LATCHES = 14
MOST_HELP = 9
# what the others lend a latch is 117 at most, so that a field of so many bits always holds it
FIELD_BITS = 8
FIELD = 255


def is_pair(thing):
    """Whether a thing is a latch's pair of an up-number and a lesser down-number."""
    if not isinstance(thing, tuple) or len(thing) != 2:
        return False
    up, down = thing
    return is_whole(up) and is_whole(down) and down < up


def is_lending(thing, many_latches):
    """Whether a thing tells what one latch of so many lends another one."""
    if not isinstance(thing, tuple) or len(thing) != 3:
        return False
    for part in thing:
        if not isinstance(part, int) or part is True or part is False:
            return False
    one, other, many = thing
    return 0 <= one < many_latches and 0 <= other < many_latches and one != other and 1 <= many <= MOST_HELP


def check_latches(latches):
    """Refuse what are no latches of a house."""
    if not isinstance(latches, tuple) or not 1 <= len(latches) <= MOST_LATCHES:
        raise NoHouse("latches", None)
    for number, pair in enumerate(latches):
        if not is_pair(pair):
            raise NoHouse("latch", number)


def rows_lent(helps, many_latches):
    """What each of so many latches lends each one, a row for each; what are no helps among them is refused."""
    if not isinstance(helps, tuple):
        raise NoHouse("helps", None)
    rows = [[0] * many_latches for _ in range(many_latches)]
    for place, lending in enumerate(helps):
        if not is_lending(lending, many_latches):
            raise NoHouse("help", place)
        one, other, many = lending
        if rows[one][other] > 0:
            raise NoHouse("help", place)
        rows[one][other] = many
    return rows


def in_one_number(row):
    """What a latch lends all, in one number: the numbers of several latches are added up all at once."""
    number = 0
    for many in reversed(row):
        number = (number << FIELD_BITS) + many
    return number


class House:
    """A house of latches, numbered from 0, and of what they lend one another. It never changes."""

    def __init__(self, latches, helps=()):
        check_latches(latches)
        rows = rows_lent(helps, len(latches))
        self._latches = tuple([(up, down) for up, down in latches])
        self._marks = tuple([(latch, latch * FIELD_BITS, up, down) for latch, (up, down) in enumerate(latches)])
        self._lend(rows)

    def _lend(self, rows):
        """Take what each latch lends each one."""
        self._rows = tuple([tuple(row) for row in rows])
        self._numbers = tuple([in_one_number(row) for row in rows])
        self._helps = tuple([(one, other, many) for one, row in enumerate(rows)
                             for other, many in enumerate(row) if many > 0])

    def latches(self):
        """The pairs (up-number, down-number) of all latches."""
        return self._latches

    def helps(self):
        """The sorted tuples (one, other, many): one lends other many."""
        return self._helps

    def up_at(self, latch):
        """The up-number of a latch."""
        check_latch(self, latch)
        return self._latches[latch][0]

    def down_at(self, latch):
        """The down-number of a latch."""
        check_latch(self, latch)
        return self._latches[latch][1]

    def all_help(self, latch):
        """All that is lent to a latch by all others together."""
        check_latch(self, latch)
        return sum([row[latch] for row in self._rows])

    def rows(self):
        """What each latch lends each one: a row for each, in which 0 is nothing."""
        return self._rows

    def numbers(self):
        """Each latch's row in one number, FIELD_BITS for each latch to which it lends."""
        return self._numbers

    def marks(self):
        """The tuples (latch, where its field begins in numbers, up-number, down-number)."""
        return self._marks

    def with_latches(self, latches):
        """The house of other latches that lend one another the same."""
        made = House(latches)
        made._rows, made._numbers, made._helps = self._rows, self._numbers, self._helps
        return made

    def put_in_order(self, order):
        """The house of the same latches, by an order of all of them."""
        made = House(tuple([self._latches[latch] for latch in order]))
        made._lend([[self._rows[one][other] for other in order] for one in order])
        return made

    def __eq__(self, other):
        return isinstance(other, House) and self._latches == other._latches and self._helps == other._helps

    def __len__(self):
        return len(self._latches)

    def __repr__(self):
        return f"House({len(self._latches)}, {len(self._helps)})"


def is_stand(house, thing):
    """Whether a thing is a stand of a house: a tuple of rising numbers of its latches."""
    return is_rising_below(thing, len(house))
