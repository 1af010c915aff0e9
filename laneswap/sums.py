"""Sums: the fewest rounds, and the fewest steps, in which lanes sum a table over the cosets of a space."""

from laneswap.checks import check_below, check_word
from laneswap.maps import Map
from laneswap.reducing import image_of, low_bits, units
from laneswap.spaces import check_space
from laneswap.spreads import check_spread


class SumPlan:
    """A plan of the fewest rounds that sum the values of the entries of each coset of a Space.

    The sums of a team have numbers, and its lanes have marks: first the bits of twins, then those of partners.
    At first a lane is to make the sums whose numbers agree with its mark in the bits of twins. In each stage one
    more bit of partners counts: the lane takes from the partner that differs from it there the values for those
    sums that agree in this bit, too, one a round; it goes on with these sums only. Bits that no sum has agree.
    """

    def __init__(self, spread, space):
        self.rounds = sum_rounds(spread, space)
        self.spread = spread
        self.space = space
        self._team = partners(spread, space)
        self._whole = spread.slot_space() + space
        self._partners = sum_steps(spread, space)
        self._marking = spread.twins().rows + self._partners
        self._marks = numbering(self._team, self._marking, ())
        self._shared = shared_sums(spread, space)
        self._numbers = numbering(self._whole, self._shared, space.rows)

    def take(self, number, lane):
        """What a lane takes in a round: the pair of the lane that shows it and an entry of its coset."""
        check_below(number, self.rounds)
        check_word(lane, self._team.bits)
        stage, at = self._stage_of(number)
        # So many bits of the number of the sum that is taken are those of the lane's mark.
        agreed = self._twin_bits() + stage + 1
        agreeing = low_bits(image_of(self._marks.columns, lane), min(agreed, len(self._shared)))
        total = agreeing | at << agreed
        known = self._whole.least(image_of(self.spread.lanes, lane))
        return (lane ^ self._partners[stage], self.space.least(known ^ image_of(self._shared, total)))

    def home(self, entry):
        """The number of a lane that holds the sum of the coset of entry in the end."""
        check_word(entry, self.spread.bits)
        mark = low_bits(image_of(self._numbers.columns, entry), len(self._marking))
        return self._team.least(self.spread.lane_of(entry)) ^ image_of(self._marking, mark)

    def _twin_bits(self):
        """How many bits of marks are those of twins."""
        return len(self._marking) - len(self._partners)

    def _stage_of(self, number):
        """The pair of the stage to which a round belongs and the number of the round within it."""
        stage = 0
        left = len(self._shared) - self._twin_bits() - 1
        while number >= 1 << max(0, left - stage):
            number = number - (1 << max(0, left - stage))
            stage = stage + 1
        return (stage, number)


def numbering(space, words, others):
    """A Map that leads words to the units, and others and what tells the cosets of a Space to 0.

    words and others are independent, and span the space together; cosets are told by their least words.
    """
    rest = tuple(others) + space.complement().rows
    basis = Map(space.bits, tuple(words) + rest)
    return Map(len(words), units(len(words)) + [0] * len(rest)) * ~basis


def check_sums(spread, space):
    """BadValue unless a Spread and a Space of as many bits are given."""
    check_spread(spread)
    check_space(space, spread.bits)


def partners(spread, space):
    """The Space of the sums of lanes that share their sums."""
    check_sums(spread, space)
    return Map(spread.bits, spread.lanes).origin(spread.slot_space() + space)


def shared_sums(spread, space):
    """A tuple of words of the slot space that tell the sums that a lane has a part of, each in one way."""
    slot_space = spread.slot_space()
    return (slot_space & space).completing(slot_space)


def sum_steps(spread, space):
    """A tuple of as few words as possible by which steps bring each lane all sums that it has a part of."""
    team = partners(spread, space)
    return spread.twins().completing(team)


def sum_rounds(spread, space):
    """The fewest rounds that make the sums of the cosets of a Space."""
    many = len(sum_steps(spread, space))
    halved = max(0, len(shared_sums(spread, space)) - spread.twins().dimension)
    if halved >= many:
        return (1 << halved) - (1 << (halved - many))
    return (1 << halved) - 1 + many - halved
