"""Cores: what is left of a list of accesses without own words, and the banks in which all of them are free."""

from laneswap.checks import check_below, check_list, check_whole
from laneswap.errors import BadValue, TooLarge
from laneswap.maps import Map
from laneswap.owning import images_outside, own_words, taken_in_turn
from laneswap.reducing import image_of, joined_rows, least_of, reduced, solved, units
from laneswap.spaces import Space, every
from laneswap.threes import Three, check_wide, filled, free_map, least_banks

LARGEST_CORE = 6
FEW = 3


class Core:
    """The rest of a list of Spaces for own words of all sets of at most two of them, and of the set of all."""

    def __init__(self, rest, accesses, lines):
        self.rest = rest
        self.accesses = accesses
        self.lines = lines


def check_spaces(spaces):
    """BadValue unless one Space or more of the same bits are given."""
    check_list(spaces)
    for space in spaces:
        if not isinstance(space, Space):
            raise BadValue(space)
    if len(spaces) == 0 or any([space.bits != spaces[0].bits for space in spaces]):
        raise BadValue(spaces)


def own_number(spaces, chosen):
    """The own number of the set of chosen indexes."""
    check_spaces(spaces)
    check_list(chosen)
    for at in chosen:
        check_below(at, len(spaces))
    if len(set(chosen)) < len(chosen):
        raise BadValue(chosen)
    return len(own_words(every(spaces[0].bits), spaces, chosen))


def core(spaces):
    """The Core of a list of Spaces."""
    check_spaces(spaces)
    found, rest, accesses = taken_in_turn(every(spaces[0].bits), spaces, small_sets(len(spaces)))
    lines = []
    for chosen, words in found.items():
        lines = lines + [(word, chosen) for word in words]
    return Core(rest, accesses, tuple(lines))


def small_sets(many):
    """The set of all of so many indexes, and those of at most two of them, each once."""
    found = [tuple(range(many))]
    for at in range(many):
        found = found + [(one, at) for one in range(at)]
    found = found + [(at,) for at in range(many)] + [()]
    return [chosen for place, chosen in enumerate(found) if chosen not in found[:place]]


def free_for_all(spaces, banks):
    """A bank map of so many bits for which all Spaces are free; None if there is none."""
    check_spaces(spaces)
    check_whole(banks)
    check_wide(spaces, banks)
    if len(spaces) == FEW:
        return free_for_few(spaces, banks)
    left = small_core(spaces)
    # Images of words that all share use bits of their own.
    room = banks - len(shared_words(left, len(spaces)))
    kernel = free_rows(left, max(0, left.rest.dimension - room))
    if kernel is None:
        return None
    return extended(left, kernel, banks)


def free_for_few(spaces, banks):
    """A bank map for which three Spaces are free; None if there is none."""
    three = Three(spaces[0], spaces[1], spaces[2])
    area = filled(three)
    if area is not None and area.dimension == banks + 1:
        return None
    return free_map(three, banks)


def small_core(spaces):
    """The Core; TooLarge if it is too large to try all kernels of bank maps."""
    left = core(spaces)
    if left.rest.dimension > LARGEST_CORE:
        raise TooLarge(left.rest.dimension)
    return left


def shared_words(left, many):
    """The own words of the set of all of so many indexes."""
    return [word for word, chosen in left.lines if len(chosen) == many]


def free_rows(left, many):
    """So many reduced rows of a space within the core that meets no access but in 0; None if there are none."""
    free = []
    for word in left.rest.listed():
        if not any([word in access for access in left.accesses]):
            free.append(word)
    return chosen_rows((), free, many)


def chosen_rows(rows, free, many):
    """So many reduced rows that begin with rows and span nothing but free words and 0; None if there are none.

    The words in free are those of which all sums with words that the rows span are free.
    """
    if len(rows) == many:
        return rows
    if len(free) < (1 << many) - (1 << len(rows)):
        return None
    for word in free:
        # Each space is tried once: by its own rows, ascending.
        if is_next_row(rows, word):
            found = chosen_rows(rows + (word,), [each for each in free if each ^ word in free], many)
            if found is not None:
                return found
    return None


def is_next_row(rows, word):
    """Whether reduced rows and behind them a word are reduced."""
    return least_of(rows, word) == word and all([row.bit_length() < word.bit_length() for row in rows])


def extended(left, kernel, banks):
    """A bank map for which all are free, of one of the core for which its accesses are, told by its kernel's rows."""
    bits = left.rest.bits
    shared = shared_words(left, len(left.accesses))
    inner = kernel + Space(bits, kernel).completing(left.rest)
    inner_images = [0] * len(kernel) + [1 << at for at in range(len(shared), len(shared) + len(inner) - len(kernel))]
    begun = [reduced(units(len(shared)) + images) for images in access_images(left, inner, inner_images)]
    lines = [(word, chosen) for word, chosen in left.lines if word not in shared]
    outer_images = images_outside([chosen for _, chosen in lines], begun)
    basis = shared + list(inner) + [word for word, _ in lines]
    return Map(banks, units(len(shared)) + inner_images + outer_images) * ~Map(bits, basis)


def access_images(left, inner, images):
    """For each access within the core the images of its rows, by the map that leads the words inner to images."""
    joined = joined_rows(inner)
    found = []
    for access in left.accesses:
        found.append([image_of(images, solved(joined, len(inner), row)) for row in access.rows])
    return found


def least_for_all(spaces):
    """The least number of bank bits for which all Spaces can be free."""
    check_spaces(spaces)
    if len(spaces) == FEW:
        return least_banks(Three(spaces[0], spaces[1], spaces[2]))
    left = small_core(spaces)
    widest = max([space.dimension for space in spaces])
    many = left.rest.dimension
    while free_rows(left, many) is None:
        many = many - 1
    return max(widest, len(shared_words(left, len(spaces))) + left.rest.dimension - many)
