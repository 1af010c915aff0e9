"""Growing spreads: spreads for each size, and what is true of accesses and changes at all sizes."""

from laneswap.checks import check_whole
from laneswap.costs import Cost, never_below_0
from laneswap.errors import BadValue, NotChained, NotOntoAt, OtherTracks
from laneswap.families import check_family
from laneswap.ranks import bits_size, chain_size, check_equal_outs, common_size, joined_size, rank_size
from laneswap.sizes import Sizes
from laneswap.spreads import Spread


class Growing:
    """A growing spread: Families from slot bits and from lane bits to the index bits, together onto at each size."""

    def __init__(self, slots, lanes):
        check_family(slots)
        check_family(lanes)
        check_equal_outs([slots, lanes])
        missing = ~joined_size([slots, lanes]).equal_at(bits_size(slots.outs))
        if not missing.is_empty:
            raise NotOntoAt(missing.least())
        self.slots = slots
        self.lanes = lanes

    def sized(self, n):
        """The Spread of a size."""
        check_whole(n)
        slots = self.slots.sized(n)
        return Spread(slots.goal, slots.columns, self.lanes.sized(n).columns)

    def copies(self):
        """The Size of the dimension of the kernel of both Families together."""
        return bits_size(self.slots.ins) + bits_size(self.lanes.ins) - bits_size(self.slots.outs)


def meeting_size(access, banks):
    """The Size of the exponent of how many words of an access meet in each bank that it touches."""
    check_family(access)
    check_family(banks)
    if banks.ins != access.outs:
        raise NotChained(0)
    return rank_size(access) - chain_size([banks, access])


def free_for_three(one, two, three, bits):
    """The set of the sizes at which there is a bank map of bits(n) bits for which all three accesses are free."""
    accesses = [one, two, three]
    for access in accesses:
        check_family(access)
    if not never_below_0(bits):
        raise BadValue(bits)
    check_equal_outs(accesses)
    found = ~filling_at(accesses, bits)
    for access in accesses:
        found = found & ~bits.below_at(rank_size(access))
    return found


def filling_at(accesses, bits):
    """The set of the sizes at which three accesses fill a space of one more than bits(n) dimensions."""
    one, two, three = accesses
    found = (bits - 1).equal_at(common_size(accesses)) & (bits + 1).equal_at(joined_size(accesses))
    for access in accesses:
        found = found & bits.equal_at(rank_size(access))
    if found.is_empty:
        return found
    # They are unlike where each two of them together are all three together.
    for several in [[one, two], [one, three], [two, three]]:
        found = found & (bits + 1).equal_at(joined_size(several))
    return found


def check_growing(one, other):
    """BadValue or OtherTracks unless a change leads from one growing spread to the other at each size."""
    for value in [one, other]:
        if not isinstance(value, Growing):
            raise BadValue(value)
    if one.slots.outs != other.slots.outs or one.lanes.ins != other.lanes.ins:
        raise OtherTracks()


def both_ways(one, other):
    """The Size of the dimension of the sum of both slot spaces and of the sums of lane words of both."""
    return joined_size([one.slots, other.slots, one.lanes + other.lanes])


def growing_rounds(one, other):
    """The Cost of the fewest rounds of a change from one growing spread to another one."""
    check_growing(one, other)
    wanted = rank_size(other.slots)
    both = joined_size([one.slots, other.slots])
    kept = rank_size(one.slots) + wanted - both
    lucky = both_ways(one, other).equal_at(both)
    return Cost([(1, wanted, Sizes((), 0, 1, (0,))), (-1, kept, lucky)])


def growing_hops(one, other):
    """The Size of the fewest hops of a change from one growing spread to another one."""
    check_growing(one, other)
    return both_ways(one, other) - rank_size(one.slots)
