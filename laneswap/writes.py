"""Writes: in each one every lane writes one entry that it holds, from a slot of its own choice."""

from laneswap.checks import check_below, check_word
from laneswap.maps import Map
from laneswap.reducing import image_of
from laneswap.spreads import check_spread


class Writes:
    """As few writes as possible behind which each entry has been written.

    In the first one the lanes write a space of entries, or all of them; in the others its cosets by further words.
    """

    def __init__(self, spread):
        self.count = write_count(spread)
        self.spread = spread
        first = first_slots(spread)
        written = Map(spread.bits, spread.slots) * first + Map(spread.bits, spread.lanes)
        further = written.image().completing(spread.slot_space())
        self._first = first
        self._further = tuple([spread.slot_of(word, 0) for word in further])

    def slot_in(self, number, lane):
        """The number of the slot from which a lane writes in a write."""
        check_below(number, self.count)
        check_word(lane, len(self.spread.lanes))
        return image_of(self._first.columns, lane) ^ image_of(self._further, number)


def write_count(spread):
    """The fewest writes behind which each entry has been written."""
    check_spread(spread)
    return 1 << max(0, spread.bits - len(spread.lanes))


def first_slots(spread):
    """A Map from lanes to slots from which they write entries as unlike as can be."""
    twins = spread.twins()
    # Modulo the slot space, lanes beside the twins hold unlike entries, whichever slots they choose.
    chosen = [spread.slot_of(row, twin) for row, twin in zip(spread.slot_space().rows, twins.rows)]
    basis = Map(twins.bits, twins.rows + twins.complement().rows)
    return Map(len(spread.slots), chosen + [0] * (twins.bits - len(chosen))) * ~basis
