"""What callers may pass: BadValue of the first thing that is not as described."""

from laneswap.errors import BadValue

LETTERS = "abcdefghijklmnopqrstuvwxyz"
LONGEST_NAME = 8


def is_integer(value):
    """Whether value is an integer; True and False are none."""
    return isinstance(value, int) and not isinstance(value, bool)


def is_whole(value):
    """Whether value is an integer from 0 on."""
    return is_integer(value) and value >= 0


def is_word(value, bits):
    """Whether value is a word of so many bits."""
    return is_whole(value) and value.bit_length() <= bits


def is_name(value):
    """Whether value is a string of 1 to 8 letters from a to z."""
    if not isinstance(value, str) or not 1 <= len(value) <= LONGEST_NAME:
        return False
    return all([sign in LETTERS for sign in value])


def is_list(value):
    """Whether value is a list or a tuple, which may stand for each other."""
    return isinstance(value, (list, tuple))


def check_integer(value):
    """BadValue unless value is an integer."""
    if not is_integer(value):
        raise BadValue(value)


def check_whole(value):
    """BadValue unless value is a whole number."""
    if not is_whole(value):
        raise BadValue(value)


def check_below(value, limit):
    """BadValue unless value is a whole number less than limit."""
    if not is_whole(value) or value >= limit:
        raise BadValue(value)


def check_word(value, bits):
    """BadValue unless value is a word of so many bits."""
    if not is_word(value, bits):
        raise BadValue(value)


def check_text(value):
    """BadValue unless value is a string."""
    if not isinstance(value, str):
        raise BadValue(value)


def check_list(values):
    """BadValue unless values is a list."""
    if not is_list(values):
        raise BadValue(values)


def check_integers(values):
    """BadValue of what is no list, or of its first item that is no integer."""
    check_list(values)
    for value in values:
        check_integer(value)


def check_wholes(values):
    """BadValue of what is no list, or of its first item that is no whole number."""
    check_list(values)
    for value in values:
        check_whole(value)


def check_words(values, bits):
    """BadValue of what is no list, or of its first item that is no word of so many bits."""
    check_list(values)
    for value in values:
        check_word(value, bits)
