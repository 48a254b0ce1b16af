"""The refusals: each one stands straight under SwayError and keeps its fields by name."""


class SwayError(ValueError):
    """Any refusal."""


class NoHouse(SwayError):
    """Latches or helps that make no house."""

    def __init__(self, what, number):
        self.what = what
        self.number = number


class NoLatch(SwayError):
    """Something that is no number of a latch."""

    def __init__(self, latch):
        self.latch = latch


class NoStand(SwayError):
    """Something that is no stand."""

    def __init__(self, stand):
        self.stand = stand


class NoSwell(SwayError):
    """Something that is no swell, or none that is asked for."""

    def __init__(self, swell):
        self.swell = swell


class NoOrder(SwayError):
    """Something that is no order of all latches."""

    def __init__(self, order):
        self.order = order


class NoText(SwayError):
    """A text that cannot be read, by the number of its first wrong row."""

    def __init__(self, at):
        self.at = at


class Unsettled(SwayError):
    """A stand that is not settled at a swell, by its least latch that would go."""

    def __init__(self, latch, swell):
        self.latch = latch
        self.swell = swell


class TooMany(SwayError):
    """More than the told limit."""

    def __init__(self, limit):
        self.limit = limit


class NoHistory(SwayError):
    """A history that is none, by the place at which no swell stands."""

    def __init__(self, place):
        self.place = place


class NoFall(SwayError):
    """A swell at which nothing goes."""

    def __init__(self, swell):
        self.swell = swell


class NoJoin(SwayError):
    """Two legs that cannot be joined, by what is otherwise."""

    def __init__(self, what):
        self.what = what


class NoMark(SwayError):
    """Something that is no mark's name, or a name that marks nothing."""

    def __init__(self, name):
        self.name = name


class NoMend(SwayError):
    """A house that cannot be put in the place of another one."""

    def __init__(self, what, number):
        self.what = what
        self.number = number


class NotClosed(SwayError):
    """A swing that does not come back to its stand."""

    def __init__(self, near, far):
        self.near = near
        self.far = far


class NoSpan(SwayError):
    """A stand that is settled nowhere."""

    def __init__(self, stand):
        self.stand = stand


class NoHeap(SwayError):
    """Something that is no heap of a plain house."""


class NotAlike(SwayError):
    """Rises that are not alike, by the first two swells between which they are not."""

    def __init__(self, low, high):
        self.low = low
        self.high = high


class NoRow(SwayError):
    """A row that is no order, by the number of its first wrong word."""

    def __init__(self, at):
        self.at = at


class NoName(SwayError):
    """A name by which nothing of its kind stands."""

    def __init__(self, name):
        self.name = name


class NoSession(SwayError):
    """A session that is refused, by the number of its refused row and why."""

    def __init__(self, at, why):
        self.at = at
        self.why = why
