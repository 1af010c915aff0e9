"""Costs: sums of powers of two over all sizes, and the sizes at which one is less than another one."""

from math import lcm

from laneswap.checks import check_integer, check_list, check_whole, is_integer, is_list
from laneswap.errors import BadValue
from laneswap.sizes import Size, Sizes, sizes_of


class Cost:
    """A sum of terms (number, size, sizes): number * 2 ** size(n) at the sizes n of a set."""

    def __init__(self, terms):
        check_terms(terms)
        self.terms = tuple([(number, size, sizes) for number, size, sizes in terms])

    def __call__(self, n):
        check_whole(n)
        return self.value_at(n)

    def __eq__(self, other):
        return isinstance(other, Cost) and sizes_of_sign(self - other, 0).is_all

    def __add__(self, other):
        check_cost(other)
        return Cost(self.terms + other.terms)

    def __sub__(self, other):
        check_cost(other)
        return self + other * -1

    def __mul__(self, other):
        check_integer(other)
        return Cost([(number * other, size, sizes) for number, size, sizes in self.terms])

    def __rmul__(self, other):
        return self * other

    def value_at(self, n):
        """The sum at a size."""
        return sum([number << size.value_at(n) for number, size, sizes in self.terms if sizes.has(n)])

    def below_at(self, other):
        """The set of sizes at which it is less than other."""
        check_cost(other)
        return sizes_of_sign(other - self, 1)

    def equal_at(self, other):
        """The set of sizes at which it is equal to other."""
        check_cost(other)
        return sizes_of_sign(other - self, 0)


def check_cost(value):
    """BadValue unless value is a Cost."""
    if not isinstance(value, Cost):
        raise BadValue(value)


def never_below_0(value):
    """Whether value is a Size none of whose values is below 0."""
    return isinstance(value, Size) and value.gain >= 0 and min(value.first + value.cycle) >= 0


def is_term(value):
    """Whether value is a triple of an integer, a Size that is never below 0 and a set of sizes."""
    if not is_list(value) or len(value) != 3:
        return False
    return is_integer(value[0]) and never_below_0(value[1]) and isinstance(value[2], Sizes)


def check_terms(values):
    """BadValue of what is no list, or of its first item that is no term."""
    check_list(values)
    for value in values:
        if not is_term(value):
            raise BadValue(value)


def sign(number):
    """1, 0 or -1: whether a number is above 0, 0 or below."""
    if number > 0:
        return 1
    if number < 0:
        return -1
    return 0


def sizes_of_sign(cost, wanted):
    """The set of sizes at which a Cost is above 0, 0 or below 0, as wanted is."""
    start = 0
    period = 1
    for _, size, sizes in cost.terms:
        start = max(start, len(size.first), sizes.start)
        period = lcm(period, len(size.cycle), sizes.period)
    growths = [grouped(cost, start + at, period) for at in range(period)]
    turns = max([settling_turn(groups) for groups in growths])
    found = [n for n in range(start) if sign(cost.value_at(n)) == wanted]
    for n in range(start, start + period * (turns + 1)):
        turn, at = divmod(n - start, period)
        if turned_sign(growths[at], turn) == wanted:
            found.append(n)
    return sizes_of(found, start + period * turns, period)


def grouped(cost, n, period):
    """The sum at a size as pairs (growth, number), the greatest growth first, no number 0.

    Each number is multiplied by 2 ** growth whenever the size grows by the period.
    """
    numbers = {}
    for number, size, sizes in cost.terms:
        if sizes.has(n):
            growth = size.gain_over(period)
            numbers[growth] = numbers.get(growth, 0) + (number << size.value_at(n))
    return sorted([(growth, number) for growth, number in numbers.items() if number != 0])[::-1]


def turned_sign(groups, turn):
    """The sign of a sum behind so many turns."""
    total = 0
    left = sum([abs(number) for _, number in groups])
    last = 0
    for growth, number in groups:
        gap = 0
        if total != 0:
            gap = (last - growth) * turn
            # What follows is too small to matter, and total would become very long.
            if total.bit_length() - 1 + gap >= left.bit_length():
                return sign(total)
        total = (total << gap) + number
        left = left - abs(number)
        last = growth
    return sign(total)


def settling_turn(groups):
    """The least number of turns from which on the sign of a sum stays the same."""
    if len(groups) < 2:
        return 0
    others = sum([abs(number) for _, number in groups[1:]])
    # From so many turns on the number that grows fastest is greater than all others together.
    missing = max(0, others.bit_length() - (abs(groups[0][1]).bit_length() - 1))
    turn = -(-missing // (groups[0][0] - groups[1][0]))
    while turn > 0 and turned_sign(groups, turn - 1) == sign(groups[0][1]):
        turn = turn - 1
    return turn
