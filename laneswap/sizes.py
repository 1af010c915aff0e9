"""Lines with a rhythm over all sizes, and sets of sizes, each in its least form."""

from math import lcm

from laneswap.checks import check_below, check_integer, check_integers, check_list, check_whole, is_integer
from laneswap.errors import BadValue


class Size:
    """A line with a rhythm: the values in first, then those of a cycle, greater by gain in each further turn."""

    def __init__(self, first, cycle, gain):
        check_integers(first)
        check_integers(cycle)
        if len(cycle) == 0:
            raise BadValue(cycle)
        check_integer(gain)
        least, step = least_cycle(list(cycle), gain)
        start = least_start(first, least, step)
        self.first = tuple(first[:start])
        self.cycle = tuple([cycled(least, step, start - len(first) + at) for at in range(len(least))])
        self.gain = step

    def __call__(self, n):
        check_whole(n)
        return self.value_at(n)

    def __eq__(self, other):
        if not isinstance(other, Size) or self.first != other.first:
            return False
        return self.cycle == other.cycle and self.gain == other.gain

    def __add__(self, other):
        one, two, start, period = lined_up(self, other)
        values = [one.value_at(n) + two.value_at(n) for n in range(start + period)]
        return Size(values[:start], values[start:], one.gain_over(period) + two.gain_over(period))

    def __radd__(self, other):
        return self + other

    def __sub__(self, other):
        check_line(other)
        return self + other * -1

    def __rsub__(self, other):
        check_line(other)
        return self * -1 + other

    def __mul__(self, other):
        check_integer(other)
        return Size([value * other for value in self.first], [value * other for value in self.cycle], self.gain * other)

    def __rmul__(self, other):
        return self * other

    def value_at(self, n):
        """The value at a size."""
        if n < len(self.first):
            return self.first[n]
        return cycled(self.cycle, self.gain, n - len(self.first))

    def gain_over(self, period):
        """By how much it grows over a multiple of its period."""
        return self.gain * (period // len(self.cycle))

    def greater(self, other):
        """The Size of the greater value at each size."""
        one, two, start, period = lined_up(self, other)
        # From here on the same one is greater, or where none grows more, the same one at the same remainder.
        start = max(start, settled(one - two))
        values = [max(one.value_at(n), two.value_at(n)) for n in range(start + period)]
        return Size(values[:start], values[start:], max(one.gain_over(period), two.gain_over(period)))

    def below_at(self, other):
        """The set of sizes at which it is less than other."""
        check_line(other)
        return sizes_above(other - self)

    def equal_at(self, other):
        """The set of sizes at which it is equal to other."""
        check_line(other)
        return ~sizes_above(other - self) & ~sizes_above(self - other)


class Sizes:
    """A set of sizes: those in few, and from start on those that leave one of the rests modulo the period."""

    def __init__(self, few, start, period, rests):
        check_whole(start)
        check_unlike(few, start)
        check_positive(period)
        check_unlike(rests, period)
        rests, period = least_rests(rests, period)
        listed = {n: True for n in few}
        while start > 0 and (start - 1 in listed) == ((start - 1) % period in rests):
            start = start - 1
        self.few = tuple(sorted([n for n in few if n < start]))
        self.start = start
        self.period = period
        self.rests = tuple(rests)
        self._listed = {n: True for n in self.few}

    def __contains__(self, n):
        check_whole(n)
        return self.has(n)

    def __eq__(self, other):
        if not isinstance(other, Sizes) or self.few != other.few or self.start != other.start:
            return False
        return self.period == other.period and self.rests == other.rests

    def __and__(self, other):
        check_sizes(other)
        start, period = max(self.start, other.start), lcm(self.period, other.period)
        found = [n for n in range(start + period) if self.has(n) and other.has(n)]
        return sizes_of(found, start, period)

    def __or__(self, other):
        check_sizes(other)
        return ~(~self & ~other)

    def __invert__(self):
        found = [n for n in range(self.start + self.period) if not self.has(n)]
        return sizes_of(found, self.start, self.period)

    def has(self, n):
        """Whether a size is a member."""
        if n < self.start:
            return n in self._listed
        return n % self.period in self.rests

    def least(self):
        """The least member, None if there is none."""
        if self.few:
            return self.few[0]
        return min([first_from(self.start, rest, self.period) for rest in self.rests], default=None)

    def many_below(self, n):
        """How many members are less than n."""
        check_whole(n)
        found = len([each for each in self.few if each < n])
        for rest in self.rests:
            # Rounded up, and none if n is not above the first one.
            beyond = n - first_from(self.start, rest, self.period)
            found = found + max(0, -(-beyond // self.period))
        return found

    @property
    def is_all(self):
        """Whether each size is a member."""
        return self.few == () and self.start == 0 and self.rests == (0,) and self.period == 1

    @property
    def is_empty(self):
        """Whether no size is a member."""
        return self.few == () and self.rests == ()


def check_unlike(values, limit):
    """BadValue unless values is a list of unlike whole numbers less than limit."""
    check_list(values)
    for value in values:
        check_below(value, limit)
    if len(set(values)) < len(values):
        raise BadValue(values)


def check_positive(value):
    """BadValue unless value is an integer from 1 on."""
    check_whole(value)
    if value == 0:
        raise BadValue(value)


def check_sizes(value):
    """BadValue unless value is a Sizes."""
    if not isinstance(value, Sizes):
        raise BadValue(value)


def check_line(value):
    """BadValue unless value is a Size or an integer."""
    if not isinstance(value, Size) and not is_integer(value):
        raise BadValue(value)


def lined_up(one, other):
    """A Size, a Size or an integer as a Size, a start that does for both, and a common period."""
    check_line(other)
    two = other
    if not isinstance(other, Size):
        two = Size((), (other,), 0)
    return one, two, max(len(one.first), len(two.first)), lcm(len(one.cycle), len(two.cycle))


def cycled(cycle, gain, at):
    """The value of a cycle so many sizes behind its beginning, or ahead of it."""
    turns, place = divmod(at, len(cycle))
    return cycle[place] + gain * turns


def least_cycle(cycle, gain):
    """The shortest cycle with the same values, and its gain."""
    many = len(cycle)
    for period in range(1, many):
        if many % period == 0 and gain * period % many == 0:
            step = gain * period // many
            if all([cycled(cycle, gain, at + period) == cycle[at] + step for at in range(many)]):
                return cycle[:period], step
    return cycle, gain


def least_start(first, cycle, gain):
    """The least number of first values that the cycle, continued to the sizes ahead of it, does not tell."""
    start = len(first)
    while start > 0 and first[start - 1] == cycled(cycle, gain, start - 1 - len(first)):
        start = start - 1
    return start


def settled(line):
    """A size from which on the sign of a Size's value is the same for all sizes with the same remainder."""
    turns = [turns_to_settle(value, line.gain) for value in line.cycle]
    return len(line.first) + len(line.cycle) * max(turns)


def turns_to_settle(value, gain):
    """The least number of turns behind which a value has the sign that it keeps."""
    if gain == 0:
        return 0
    if gain < 0:
        return turns_to_settle(-value, -gain)
    return max(0, -((value - 1) // gain))


def sizes_above(line):
    """The set of sizes at which a Size is greater than 0."""
    start = settled(line)
    period = len(line.cycle)
    return sizes_of([n for n in range(start + period) if line.value_at(n) > 0], start, period)


def sizes_of(found, start, period):
    """The Sizes of those that are found below start and in one period from there on."""
    few = [n for n in found if n < start]
    return Sizes(few, start, period, [n % period for n in found if n >= start])


def first_from(start, rest, period):
    """The least size from start on with a remainder."""
    return start + (rest - start) % period


def least_rests(rests, period):
    """The remainders, ascending, by the least period for which they tell the same sizes, and this period."""
    for least in range(1, period):
        if period % least == 0 and all([(rest + least) % period in rests for rest in rests]):
            return sorted([rest for rest in rests if rest < least]), least
    return sorted(rests), period
