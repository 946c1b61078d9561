"""Motion: values that go to others in time."""

from pagestack.errors import SizeError

WAYS = ("even", "slow", "fast", "both")
AT_ONCE = (0, "even")


def need_way(length, way):
    """Raise SizeError for a length below 0 or an unknown way."""
    if length < 0 or way not in WAYS:
        raise SizeError("no such way")


def share_of(gone, length, way):
    """Return (numerator, denominator) of the share of a way that is gone after so many of its ticks."""
    left = length - gone
    whole = length * length
    if way == "even":
        return (gone, length)
    if way == "slow":
        return (gone * gone, whole)
    if way == "fast":
        return (whole - left * left, whole)
    return (2 * gone * gone, whole) if 2 * gone <= length else (whole - 2 * left * left, whole)


class Path:
    """Where a value begins and ends, when, how long it takes, and by which way it goes."""

    def __init__(self, first, last, start, length, way):
        need_way(length, way)
        self.first = first
        self.last = last
        self.start = start
        self.length = length
        self.way = way

    def is_over(self, time):
        """Return True from the end on."""
        return time >= self.start + self.length

    def value_at(self, time):
        """Return the value at a time, rounded down: the first one until the start, the last one from the end on.

        Of t of n ticks the way is t by n ("even"), its square ("slow"), 1 less the square of what is left ("fast"), or
        twice its square up to the middle and 1 less twice the square of what is left behind it ("both").
        """
        # A way without ticks is over where it begins.
        if self.is_over(time):
            return self.last
        if time <= self.start:
            return self.first
        many, whole = share_of(time - self.start, self.length, self.way)
        return self.first + (self.last - self.first) * many // whole


class Mover:
    """Values by name, paths under way by name, and how each name goes: (length, way), (0, "even") if it is not told."""

    def __init__(self):
        self.values_now = {}
        # Only unfinished paths: each takes a tick at least, and goes with the tick that ends it.
        self.paths = {}
        self.ways = {}
        self.time = 0

    def set_way(self, name, length, way):
        """Tell how a name's value goes from now on; raise SizeError for a bad way."""
        need_way(length, way)
        self.ways[name] = (length, way)

    def value_now(self, name):
        """Return the value of a name now; raise SizeError for an unknown one."""
        if name in self.paths:
            return self.paths[name].value_at(self.time)
        if name not in self.values_now:
            raise SizeError("no such name")
        return self.values_now[name]

    def go_to(self, name, last):
        """Let a value go to another one from where it is now; the first value of a name is there at once.

        A way back to where an unfinished path came from takes as long as was gone.
        """
        if name not in self.paths and name not in self.values_now:
            self.stay(name, last)
            return
        now = self.value_now(name)
        length, way = self.ways.get(name, AT_ONCE)
        # Of a way without ticks nothing is left that could end when time passes, so no path is kept for a tick to tell.
        if now == last or length == 0:
            self.stay(name, last)
            return
        length = min(length, self.longest_back(name, last, length))
        self.paths[name] = Path(now, last, self.time, length, way)

    def stay(self, name, value):
        """Let a name have a value at once; what was under way is under way no more."""
        self.values_now[name] = value
        if name in self.paths:
            del self.paths[name]

    def longest_back(self, name, last, length):
        """Return how long a way may take: what was gone of an unfinished path if it leads back to its beginning."""
        path = self.paths.get(name)
        if path is None or path.first != last:
            return length
        return self.time - path.start

    def tick(self, many=1):
        """Let time pass; return the names whose paths have ended since, ascending."""
        self.time += many
        ended = [name for name in sorted(self.paths) if self.paths[name].is_over(self.time)]
        for name in ended:
            self.values_now[name] = self.paths[name].last
            del self.paths[name]
        return tuple(ended)

    def moving(self):
        """Return the names that are on their way, ascending."""
        return tuple(sorted(self.paths))
