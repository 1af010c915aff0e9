"""All errors of the package: each is created from its fields and has them as attributes."""


class LaneError(ValueError):
    """What all errors of the package are."""


class BadValue(LaneError):
    """An argument, or an item of a list, is not as described."""

    def __init__(self, value):
        self.value = value


class NotOneToOne(LaneError):
    """A word that is not 0 has the image 0."""

    def __init__(self, word):
        self.word = word


class NotOnto(LaneError):
    """A word is no image, an entry has no place."""

    def __init__(self, word):
        self.word = word


class NotDivisible(LaneError):
    """A word of the divisor's kernel has an image that is not 0."""

    def __init__(self, word):
        self.word = word


class NotApart(LaneError):
    """A spread is not another one and a further one side by side."""


class TooLarge(LaneError):
    """A space of this dimension is too large for what is asked."""

    def __init__(self, dimension):
        self.dimension = dimension


class Unequal(LaneError):
    """Two numbers that must be equal are not."""

    def __init__(self, one, other):
        self.one = one
        self.other = other


class Unknown(LaneError):
    """Nothing has this name."""

    def __init__(self, name):
        self.name = name


class BadText(LaneError):
    """A text is not the text of a word."""

    def __init__(self, value):
        self.value = value


class BadLine(LaneError):
    """A line of a text, told by its number, is not as described."""

    def __init__(self, at):
        self.at = at


class NotFitting(LaneError):
    """Two spreads do not fit."""


class Filled(LaneError):
    """Three spaces fill the space with these rows."""

    def __init__(self, rows):
        self.rows = rows


class BadRule(LaneError):
    """A rule of a family, told by its index, is none."""

    def __init__(self, index):
        self.index = index


class OtherTracks(LaneError):
    """Families have other tracks than they must have."""


class NotChained(LaneError):
    """A family, told by its index, cannot follow the next one."""

    def __init__(self, index):
        self.index = index


class NotOntoAt(LaneError):
    """A growing spread is not onto at a size."""

    def __init__(self, size):
        self.size = size


class Unfit(LaneError):
    """A spread cannot be transferred with this width."""

    def __init__(self, width):
        self.width = width


class BadPromise(LaneError):
    """A value is no promise."""

    def __init__(self, promise):
        self.promise = promise


class Broken(LaneError):
    """A promise would not be kept."""

    def __init__(self, promise):
        self.promise = promise


class NotMade(LaneError):
    """A promise has not been made."""

    def __init__(self, promise):
        self.promise = promise


class NothingToUndo(LaneError):
    """No deed is left to be taken back."""


class HasCopies(LaneError):
    """Spreads have copies where none may be."""


class OddStep(LaneError):
    """The step of a stage meets its test oddly."""


class NotWanted(LaneError):
    """A lane does not want an entry."""


class TooWide(LaneError):
    """An access, told by its index, has more dimensions than there are bits of banks."""

    def __init__(self, index):
        self.index = index
