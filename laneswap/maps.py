"""Maps of words: the image of a sum is the sum of the images."""

from laneswap.checks import check_below, check_whole, check_word, check_words
from laneswap.errors import BadValue, NotDivisible, NotOneToOne, NotOnto
from laneswap.reducing import image_of, joined_rows, kernel_rows, least_missing, reduced, solved, units
from laneswap.spaces import Space, check_space


class Map:
    """The map to words of goal bits that leads the units to the columns."""

    def __init__(self, goal, columns):
        check_whole(goal)
        check_words(columns, goal)
        self.goal = goal
        self.columns = tuple(columns)
        self.source = len(self.columns)

    def __eq__(self, other):
        return isinstance(other, Map) and self.goal == other.goal and self.columns == other.columns

    def __call__(self, word):
        check_word(word, self.source)
        return image_of(self.columns, word)

    def __getitem__(self, bit):
        check_below(bit, self.source)
        return self.columns[bit]

    def __iter__(self):
        return iter(self.columns)

    def __mul__(self, other):
        if not isinstance(other, Map) or other.goal != self.source:
            raise BadValue(other)
        return Map(self.goal, [image_of(self.columns, column) for column in other.columns])

    def __add__(self, other):
        if not isinstance(other, Map) or other.source != self.source or other.goal != self.goal:
            raise BadValue(other)
        return Map(self.goal, [one ^ two for one, two in zip(self.columns, other.columns)])

    def __invert__(self):
        check_one_to_one(self)
        check_onto(self)
        joined = joined_rows(self.columns)
        return Map(self.source, [solved(joined, self.source, unit) for unit in units(self.goal)])

    def __floordiv__(self, other):
        if not isinstance(other, Map) or other.source != self.source:
            raise BadValue(other)
        check_onto(other)
        joined = joined_rows(other.columns)
        for word in kernel_rows(joined, other.source):
            if image_of(self.columns, word):
                raise NotDivisible(word)
        origins = [solved(joined, other.source, unit) for unit in units(other.goal)]
        return Map(self.goal, [image_of(self.columns, word) for word in origins])

    def rank(self):
        """The dimension of the image."""
        return len(reduced(self.columns))

    def kernel(self):
        """The Space of the words with image 0."""
        return Space(self.source, kernel_rows(joined_rows(self.columns), self.source))

    def image(self):
        """The Space of all images."""
        return Space(self.goal, self.columns)

    def solve(self, word):
        """The least word whose image is word; None if there is none."""
        check_word(word, self.goal)
        return solved(joined_rows(self.columns), self.source, word)

    def turned(self):
        """The Map whose column i has as its bit j the bit i of column j."""
        columns = []
        for bit in range(self.goal):
            flags = [(column >> bit & 1) << at for at, column in enumerate(self.columns)]
            columns.append(sum(flags))
        return Map(self.source, columns)

    def moved(self, space):
        """The Space of the images of a Space."""
        check_space(space, self.source)
        return Space(self.goal, [image_of(self.columns, row) for row in space.rows])

    def origin(self, space):
        """The Space of the words whose images are in a Space."""
        check_space(space, self.goal)
        joined = joined_rows([space.least(column) for column in self.columns])
        return Space(self.source, kernel_rows(joined, self.source))

    def beside(self, other):
        """The Map with the columns of this one and behind them those of other."""
        if not isinstance(other, Map) or other.goal != self.goal:
            raise BadValue(other)
        return Map(self.goal, self.columns + other.columns)

    def stacked(self, other):
        """The Map to the images by this one and, at the bits behind them, those by other."""
        if not isinstance(other, Map) or other.source != self.source:
            raise BadValue(other)
        columns = [low | high << self.goal for low, high in zip(self.columns, other.columns)]
        return Map(self.goal + other.goal, columns)


def check_one_to_one(change):
    """NotOneToOne with the least word that is not 0 and that the Map leads to 0."""
    kernel = kernel_rows(joined_rows(change.columns), change.source)
    if kernel:
        raise NotOneToOne(kernel[0])


def check_onto(change):
    """NotOnto with the least word that is no image by the Map."""
    rows = reduced(change.columns)
    if len(rows) < change.goal:
        raise NotOnto(least_missing(rows))


def unit_map(bits):
    """The Map of so many bits in which each word is its own image."""
    check_whole(bits)
    return Map(bits, units(bits))
