"""Stores: addresses of entries in banks, transfers of some width, and what meets in one bank."""

from laneswap.checks import check_below, check_list, check_wholes
from laneswap.errors import BadValue, Unfit
from laneswap.maps import Map
from laneswap.reducing import low_bits
from laneswap.spaces import Space, check_space, every, shared_complement
from laneswap.spreads import Spread, check_spread


class Store:
    """A store at which change leads entries to addresses, whose banks lowest bits are the bank."""

    def __init__(self, change, banks):
        if not isinstance(change, Map) or change.goal != change.source:
            raise BadValue(change)
        check_below(banks, change.source + 1)
        self._entries = (~change).columns
        self.change = change
        self.banks = banks
        self._bank_0 = Space(change.source, self._entries[banks:])

    def bank(self, entry):
        """The number of the bank of an entry."""
        return low_bits(self.change(entry), self.banks)

    def bank_map(self):
        """The Map from entries to banks."""
        return Map(self.banks, [low_bits(column, self.banks) for column in self.change.columns])

    def meeting(self, space):
        """The dimension of what a Space of entries has in bank 0."""
        check_space(space, self.change.source)
        return (space & self._bank_0).dimension

    def fits(self, spread, width):
        """Whether a Spread can be transferred with this width."""
        check_spread_of(spread, self.change.source)
        check_below(width, self.banks + 1)
        slot_space = spread.slot_space()
        return all([entry in slot_space for entry in self._entries[:width]])

    def touched(self, spread, width):
        """The Space whose cosets are what the phases of a transfer touch."""
        if not self.fits(spread, width):
            raise Unfit(width)
        return touching(spread, Space(spread.bits, self._entries[:width]))

    def beats(self, spread, width):
        """The beats of a transfer."""
        met = self.meeting(self.touched(spread, width))
        return 1 << (min(width, len(spread.lanes)) + met)


def check_spread_of(value, bits):
    """BadValue unless value is a Spread of so many bits."""
    if not isinstance(value, Spread) or value.bits != bits:
        raise BadValue(value)


def check_widths(spreads, widths):
    """BadValue unless Spreads of equal bits, one or more, and as many widths are given."""
    check_list(spreads)
    for spread in spreads:
        check_spread(spread)
    if len(spreads) == 0 or any([spread.bits != spreads[0].bits for spread in spreads]):
        raise BadValue(spreads)
    check_wholes(widths)
    if len(widths) != len(spreads):
        raise BadValue(widths)


def touching(spread, carried):
    """The Space that a phase of a transfer touches that carries, for each lane, a coset of the Space carried."""
    served = max(0, len(spread.lanes) - carried.dimension)
    return Space(spread.bits, spread.lanes[:served] + carried.rows)


def fitting(spreads, widths):
    """Whether there is a chain of spaces for the Spreads with these widths."""
    return chain(spreads, widths) is not None


def chain(spreads, widths):
    """A tuple of Spaces, one inside the other, each in the slot space of its Spread; None if there are none."""
    check_widths(spreads, widths)
    bits = spreads[0].bits
    common = every(bits)
    links = []
    for width, at in sorted([(width, at) for at, width in enumerate(widths)])[::-1]:
        common = common & spreads[at].slot_space()
        if width > common.dimension:
            return None
        links.append((width, at, common))
    words = ()
    found = {}
    for width, at, common in links[::-1]:
        # The words of narrower spaces lie in all that have been met with for the wider ones.
        words = words + Space(bits, words).completing(common)[:width - len(words)]
        found[at] = Space(bits, words)
    return tuple([found[at] for at in range(len(spreads))])


def store_for(one, other, widths, banks):
    """A Store at which two Spreads can be transferred with these widths, as free as can be; None if there is none."""
    check_spread(one)
    check_spread_of(other, one.bits)
    check_widths([one, other], widths)
    check_below(banks, one.bits + 1)
    for width in widths:
        if width > banks:
            raise Unfit(width)
    spaces = chain([one, other], widths)
    if spaces is None:
        return None
    bank_0 = shared_complement(kept_apart(one, spaces[0], banks), kept_apart(other, spaces[1], banks))
    return Store(~Map(one.bits, unit_entries(spaces, bank_0)), banks)


def kept_apart(spread, carried, banks):
    """A Space with banks as dimension that contains the Space carried and, if it may, all that a phase touches."""
    area = touching(spread, carried)
    words = carried.rows + carried.completing(area) + area.completing(every(spread.bits))
    return Space(spread.bits, words[:banks])


def unit_entries(spaces, bank_0):
    """The entries at addresses that are units: first those of both spaces of a chain, last those in bank 0."""
    narrow, wide = spaces
    if narrow.dimension > wide.dimension:
        wide, narrow = spaces
    low = narrow.rows + narrow.completing(wide)
    told = Space(wide.bits, low + bank_0.rows)
    return low + told.completing(every(wide.bits)) + bank_0.rows
