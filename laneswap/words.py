"""Words: whole numbers of any size, told by their bits."""

from laneswap.checks import check_whole, check_wholes
from laneswap.errors import BadValue


def added(words):
    """The sum of a list of words, modulo 2 at each bit."""
    check_wholes(words)
    total = 0
    for word in words:
        total = total ^ word
    return total


def ones(word):
    """The tuple of the bits that are 1 in word, ascending."""
    check_whole(word)
    digits = f"{word:b}"[::-1]
    return tuple([bit for bit, digit in enumerate(digits) if digit == "1"])


def word_of(bits):
    """The word in which just the bits of the list are 1; BadValue of the first that comes again."""
    check_wholes(bits)
    word = 0
    for bit in bits:
        if word >> bit & 1:
            raise BadValue(bit)
        word = word | 1 << bit
    return word


def odd(word, test):
    """Whether word and test have an odd number of ones at the same bits."""
    check_whole(word)
    check_whole(test)
    return f"{word & test:b}".count("1") % 2 == 1
