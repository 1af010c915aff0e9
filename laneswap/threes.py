"""Three accesses: the nine numbers that tell them, and the banks in which nothing that they ask for meets."""

from laneswap.checks import check_whole, check_wholes
from laneswap.errors import BadValue, Filled, TooWide
from laneswap.maps import Map
from laneswap.owning import images_outside, taken_in_turn
from laneswap.reducing import image_of, joined_rows, low_bits, reduced, solved, units
from laneswap.spaces import Space, check_space, every

ALL = (0, 1, 2)
PAIRS = ((0, 1), (0, 2), (1, 2))
SINGLES = ((0,), (1,), (2,))
NONE = ()


class Three:
    """Three Spaces of the same bits, with own words of all sets of them and planes that span their rest."""

    def __init__(self, one, two, three):
        if not isinstance(one, Space):
            raise BadValue(one)
        check_space(two, one.bits)
        check_space(three, one.bits)
        self.spaces = (one, two, three)
        found, _, left = taken_in_turn(every(one.bits), self.spaces, (ALL,) + PAIRS + SINGLES + (NONE,))
        self.shared = found[ALL]
        self.pairs = tuple([found[chosen] for chosen in PAIRS])
        self.planes = planes_of(left)
        self.alone = tuple([found[chosen] for chosen in SINGLES])
        self.outside = found[NONE]

    def numbers(self):
        """The tuple of the nine numbers: of shared, pairs, planes, alone and outside."""
        pairs = tuple([len(words) for words in self.pairs])
        alone = tuple([len(words) for words in self.alone])
        return (len(self.shared),) + pairs + (len(self.planes),) + alone + (len(self.outside),)

    def leading(self, other):
        """A Map that can be undone and leads each of the Spaces to that of other; None if there is none."""
        check_three(other)
        bits = self.spaces[0].bits
        if other.spaces[0].bits != bits:
            raise BadValue(other)
        if self.numbers() != other.numbers():
            return None
        return Map(bits, basis_of(other)) * ~Map(bits, basis_of(self))


def check_three(value):
    """BadValue unless value is a Three."""
    if not isinstance(value, Three):
        raise BadValue(value)


def planes_of(accesses):
    """The planes of three Spaces of which each word of one is in one way a sum of words of the two others."""
    first, second, third = accesses
    joined = joined_rows(second.rows + third.rows)
    many = second.dimension
    parts = [low_bits(solved(joined, 2 * many, word), many) for word in first.rows]
    return tuple([(word, image_of(second.rows, part)) for word, part in zip(first.rows, parts)])


def basis_of(three):
    """All own words and words of planes, which are independent: shared, e and f of each plane, then the others."""
    words = list(three.shared)
    for plane in three.planes:
        words = words + list(plane)
    for some in three.pairs + three.alone:
        words = words + list(some)
    return words + list(three.outside)


def told_sets(three):
    """For each word of the basis behind those of the planes the set of the indexes of its accesses."""
    found = []
    for chosen, words in zip(PAIRS + SINGLES, three.pairs + three.alone):
        found = found + [chosen] * len(words)
    return found + [NONE] * len(three.outside)


def jam(access, bank_map):
    """The jam of a Space in the banks of a Map."""
    if not isinstance(access, Space):
        raise BadValue(access)
    if not isinstance(bank_map, Map) or bank_map.source != access.bits:
        raise BadValue(bank_map)
    return access.dimension - bank_map.moved(access).dimension


def filled(three):
    """The Space that a Three fills; None if it fills none."""
    check_three(three)
    one, two, last = three.spaces
    # Modulo what all share, three lines make a plane.
    if len(three.planes) != 1 or any(three.pairs) or any(three.alone):
        return None
    return one + two + last


def least_banks(three):
    """The least number of bank bits for which all three can be free."""
    check_three(three)
    widest = max([space.dimension for space in three.spaces])
    if filled(three) is None:
        return widest
    return widest + 1


def free_banks(three, banks):
    """A bank map of so many bits for which all three are free."""
    check_three(three)
    check_whole(banks)
    check_wide(three.spaces, banks)
    area = filled(three)
    if area is not None and area.dimension == banks + 1:
        raise Filled(area.rows)
    return free_map(three, banks)


def check_wide(spaces, banks):
    """TooWide with the index of the first Space that has more dimensions than there are bank bits."""
    for at, space in enumerate(spaces):
        if space.dimension > banks:
            raise TooWide(at)


def free_map(three, banks):
    """A bank map for which a Three is free that has room for it."""
    shared = units(len(three.shared))
    planes = plane_images(len(three.shared), len(three.planes))
    images = list(shared)
    begun = [list(shared), list(shared), list(shared)]
    for one, two in planes:
        images = images + [one, two]
        begun = [rows + [image] for rows, image in zip(begun, (one, two, one ^ two))]
    images = images + images_outside(told_sets(three), [reduced(rows) for rows in begun])
    bits = three.spaces[0].bits
    return Map(banks, images) * ~Map(bits, basis_of(three))


def plane_images(first, many):
    """Images for e and f of so many planes, such that those of all e, of all f and of all sums are independent.

    They use the bits from first on: as many as there are planes, but two for one plane alone.
    """
    if many == 1:
        return [(1 << first, 2 << first)]
    found = []
    if many % 2 == 1:
        one, two, last = 1 << first, 2 << first, 4 << first
        found = [(one, two), (two, last), (last, one ^ two)]
    for at in range(first + len(found), first + many, 2):
        one, two = 1 << at, 2 << at
        found = found + [(one, two), (two, one ^ two)]
    return found


def best_banks(three, banks, weights=(1, 1, 1)):
    """The pair of the least cost of a bank map of so many bits and such a map."""
    check_three(three)
    check_whole(banks)
    check_wholes(weights)
    if len(weights) != len(three.spaces):
        raise BadValue(weights)
    bank_map = free_map(narrowed(three, banks, weights), banks)
    jams = [jam(space, bank_map) for space in three.spaces]
    return (sum([weight << many for weight, many in zip(weights, jams)]), bank_map)


def narrowed(three, banks, weights):
    """The Three of spaces in those of a Three that can all be free, so large that what they leave out costs least."""
    spaces = [first_part(space, 0, banks) for space in three.spaces]
    area = filled(Three(spaces[0], spaces[1], spaces[2]))
    if area is not None and area.dimension == banks + 1:
        spaces = part_changed(three, banks, weights, spaces)
    return Three(spaces[0], spaces[1], spaces[2])


def first_part(space, first, many):
    """The Space that so many rows of a space, or all if there are fewer, span, from the row first on."""
    return Space(space.bits, space.rows[first:first + many])


def part_changed(three, banks, weights, spaces):
    """The parts of the spaces of a Three, one of them another one, where they would fill a space."""
    wide = [at for at in ALL if three.spaces[at].dimension > banks]
    if wide:
        # Beside two of the parts just one space fills, so another part of the third one does not.
        at = wide[0]
        other = first_part(three.spaces[at], 1, banks)
    else:
        at = min([(weights[at], at) for at in ALL])[1]
        other = first_part(three.spaces[at], 0, banks - 1)
    return spaces[:at] + [other] + spaces[at + 1:]
