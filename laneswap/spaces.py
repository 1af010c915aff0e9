"""Spaces of words: sets that contain 0 and the sum of any two of their words."""

from laneswap.checks import check_whole, check_word, check_words
from laneswap.errors import BadValue, TooLarge, Unequal
from laneswap.reducing import grown, least_missing, least_of, reduced, units

LARGEST_LISTED = 12


class Space:
    """The space that a list of words of so many bits spans."""

    def __init__(self, bits, words):
        check_whole(bits)
        check_words(words, bits)
        self.bits = bits
        self.rows = tuple(reduced(words))
        self.dimension = len(self.rows)

    def __eq__(self, other):
        return isinstance(other, Space) and self.bits == other.bits and self.rows == other.rows

    def __contains__(self, word):
        check_word(word, self.bits)
        return least_of(self.rows, word) == 0

    def __and__(self, other):
        check_space(other, self.bits)
        # Of these words of twice the bits, sums that are 0 at the high half are at the low half
        # the words of self that are words of other, too.
        doubled = [(row << self.bits) | row for row in self.rows]
        raised = [row << self.bits for row in other.rows]
        return Space(self.bits, [row for row in reduced(doubled + raised) if row >> self.bits == 0])

    def __add__(self, other):
        check_space(other, self.bits)
        return Space(self.bits, self.rows + other.rows)

    def inside(self, other):
        """Whether all words of this space are words of other."""
        check_space(other, self.bits)
        return all([least_of(other.rows, row) == 0 for row in self.rows])

    def least(self, word):
        """The least word of the coset of word."""
        check_word(word, self.bits)
        return least_of(self.rows, word)

    def listed(self, word=0):
        """The tuple of all words of the coset of word, ascending."""
        check_word(word, self.bits)
        if self.dimension > LARGEST_LISTED:
            raise TooLarge(self.dimension)
        found = [least_of(self.rows, word)]
        for row in self.rows:
            # All found words are 0 at the top of row and above it alike: the sums come behind them, in their order.
            found = found + [each ^ row for each in found]
        return tuple(found)

    def completing(self, other):
        """The tuple of the rows of other that are no sums of this space's rows and other's earlier rows."""
        check_space(other, self.bits)
        rows = self.rows
        found = []
        for row in other.rows:
            if least_of(rows, row):
                rows = grown(rows, row)
                found.append(row)
        return tuple(found)

    def complement(self):
        """The Space that the units of bits that are tops of no row span."""
        tops = [row.bit_length() - 1 for row in self.rows]
        return Space(self.bits, [1 << bit for bit in range(self.bits) if bit not in tops])


def check_space(value, bits):
    """BadValue unless value is a Space of so many bits."""
    if not isinstance(value, Space) or value.bits != bits:
        raise BadValue(value)


def every(bits):
    """The Space of all words of so many bits."""
    check_whole(bits)
    return Space(bits, units(bits))


def shared_complement(one, other):
    """A Space that is a complement of both Spaces."""
    if not isinstance(one, Space):
        raise BadValue(one)
    check_space(other, one.bits)
    if one.dimension != other.dimension:
        raise Unequal(one.dimension, other.dimension)
    first = one.rows
    second = other.rows
    words = []
    while len(first) < one.bits:
        word = outside_both(first, second)
        words.append(word)
        first = grown(first, word)
        second = grown(second, word)
    return Space(one.bits, words)


def outside_both(first, second):
    """A word that neither of two equally many reduced rows span."""
    one = least_missing(first)
    other = least_missing(second)
    if least_of(second, one):
        return one
    if least_of(first, other):
        return other
    return one ^ other
