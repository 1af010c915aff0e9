"""Reduced rows: what spaces and maps are worked out with.

Rows are reduced if they ascend and the top of each of them is 0 in all others.
The functions here take what has been checked already.
"""


def least_of(rows, word):
    """The least sum of word and some of the reduced rows."""
    for row in rows:
        # The sum is less exactly if word has the top of row.
        word = min(word, word ^ row)
    return word


def grown(rows, word):
    """The reduced rows that span word and the reduced rows together."""
    rest = least_of(rows, word)
    if rest == 0:
        return list(rows)
    # A row is lessened exactly if it has the top of rest; rest has the top of no row.
    return sorted([min(row, row ^ rest) for row in rows] + [rest])


def reduced(words):
    """The reduced rows that span what the words span."""
    rows = []
    for word in words:
        rows = grown(rows, word)
    return rows


def dimensions_gained(rows, words):
    """By how many dimensions words enlarge what reduced rows span."""
    tops = {row.bit_length(): row for row in rows}
    for word in words:
        while word.bit_length() in tops:
            word = word ^ tops[word.bit_length()]
        if word:
            tops[word.bit_length()] = word
    return len(tops) - len(rows)


def least_missing(rows):
    """The unit of the lowest bit that is the top of none of the reduced rows."""
    unit = 1
    for row in rows:
        if row.bit_length() > unit.bit_length():
            return unit
        unit = unit << 1
    return unit


def units(bits):
    """The units of so many bits, ascending."""
    return [1 << bit for bit in range(bits)]


def low_bits(word, many):
    """The word of the so many lowest bits of word."""
    return word & ((1 << many) - 1)


def image_of(columns, word):
    """The sum of those columns whose bits are 1 in word."""
    image = 0
    for column in columns:
        if word & 1:
            image = image ^ column
        word = word >> 1
    return image


def joined_rows(columns):
    """The reduced rows of all words that consist of an image and, at the lowest bits, a word with this image."""
    source = len(columns)
    return reduced([(column << source) | (1 << bit) for bit, column in enumerate(columns)])


def kernel_rows(joined, source):
    """The rows of the kernel of a map with so many columns, of its joined rows."""
    return [row for row in joined if row >> source == 0]


def solved(joined, source, word):
    """The least word with the image word by a map with so many columns, of its joined rows; None if there is none."""
    rest = least_of(joined, word << source)
    if rest >> source:
        return None
    return rest
