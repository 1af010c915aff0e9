"""Spreads: which entry of a table lies at each place, a slot of a lane."""

from laneswap.checks import check_whole, check_word, check_words
from laneswap.errors import BadValue, NotApart, NotOnto
from laneswap.maps import Map, check_one_to_one
from laneswap.reducing import image_of, joined_rows, kernel_rows, least_missing, solved
from laneswap.spaces import Space
from laneswap.words import ones


class Spread:
    """The spread of a table of so many bits by slot words and lane words."""

    def __init__(self, bits, slots, lanes):
        check_whole(bits)
        check_words(slots, bits)
        check_words(lanes, bits)
        self.bits = bits
        self.slots = tuple(slots)
        self.lanes = tuple(lanes)
        placed = Space(bits, self.slots + self.lanes)
        if placed.dimension < bits:
            raise NotOnto(least_missing(placed.rows))
        self._slot_space = Space(bits, self.slots)
        self._slots_joined = joined_rows(self.slots)
        # Modulo the slot space a lane is told by what it holds.
        self._lanes_joined = joined_rows([self._slot_space.least(word) for word in self.lanes])

    def __eq__(self, other):
        if not isinstance(other, Spread) or self.bits != other.bits:
            return False
        return self.slots == other.slots and self.lanes == other.lanes

    def __or__(self, other):
        check_spread(other)
        slots = self.slots + tuple([word << self.bits for word in other.slots])
        lanes = self.lanes + tuple([word << self.bits for word in other.lanes])
        return Spread(self.bits + other.bits, slots, lanes)

    def __floordiv__(self, other):
        check_spread(other)
        slots = words_behind(self.slots, other.slots, other.bits)
        lanes = words_behind(self.lanes, other.lanes, other.bits)
        if other.bits > self.bits or slots is None or lanes is None:
            raise NotApart()
        return Spread(self.bits - other.bits, slots, lanes)

    def entry(self, slot, lane):
        """The entry at a place."""
        check_word(slot, len(self.slots))
        check_word(lane, len(self.lanes))
        return image_of(self.slots, slot) ^ image_of(self.lanes, lane)

    def lane_of(self, entry):
        """The least lane that holds an entry."""
        check_word(entry, self.bits)
        return solved(self._lanes_joined, len(self.lanes), self._slot_space.least(entry))

    def slot_of(self, entry, lane):
        """The least slot of a lane that holds an entry; None if there is none."""
        check_word(entry, self.bits)
        check_word(lane, len(self.lanes))
        return solved(self._slots_joined, len(self.slots), entry ^ image_of(self.lanes, lane))

    def held(self, lane):
        """The tuple of the entries that a lane holds, each once, ascending."""
        check_word(lane, len(self.lanes))
        return self._slot_space.listed(image_of(self.lanes, lane))

    def slot_space(self):
        """The Space that the slot words span."""
        return self._slot_space

    def lane_space(self):
        """The Space that the lane words span."""
        return Space(self.bits, self.lanes)

    def twins(self):
        """The Space of the sums of lanes that hold the same entries."""
        return Space(len(self.lanes), kernel_rows(self._lanes_joined, len(self.lanes)))

    def copies(self):
        """The Space of the sums of place words of places with the same entry."""
        return self.placing().kernel()

    def placing(self):
        """The Map from place words to entries."""
        return Map(self.bits, self.slots + self.lanes)

    def together(self, entries):
        """Whether some lane holds all entries of a list."""
        check_words(entries, self.bits)
        return all([entry ^ entries[0] in self._slot_space for entry in entries])

    def renamed(self, change):
        """The Spread that has the image of an entry wherever this one has the entry."""
        if not isinstance(change, Map) or change.source != self.bits or change.goal != self.bits:
            raise BadValue(change)
        check_one_to_one(change)
        return Spread(self.bits, [change(word) for word in self.slots], [change(word) for word in self.lanes])

    def parts(self):
        """The tuple of the parts: triples of entry bits, slot bits and lane bits that are tied to one another."""
        found = []
        for entry_bits, mask in tied_bits(self.slots + self.lanes):
            found.append((entry_bits, bits_within(self.slots, mask), bits_within(self.lanes, mask)))
        slots_alone = [((), (bit,), ()) for bit, word in enumerate(self.slots) if word == 0]
        lanes_alone = [((), (), (bit,)) for bit, word in enumerate(self.lanes) if word == 0]
        return tuple(found + slots_alone + lanes_alone)


def check_spread(value):
    """BadValue unless value is a Spread."""
    if not isinstance(value, Spread):
        raise BadValue(value)


def words_behind(whole, first, bits):
    """The words of a spread that stands beside one with the words first and so many bits; None if none can."""
    behind = whole[len(first):]
    if whole[:len(first)] != first or any([word != word >> bits << bits for word in behind]):
        return None
    return [word >> bits for word in behind]


def tied_bits(words):
    """The lists of bits that words tie to one another, ascending: pairs of the tuple of bits and the word of them."""
    masks = []
    for word in words:
        tied = word
        for mask in masks:
            if mask & word:
                tied = tied | mask
        if word:
            masks = [mask for mask in masks if mask & word == 0] + [tied]
    return sorted([(ones(mask), mask) for mask in masks])


def bits_within(words, mask):
    """The tuple of the numbers of the words that are 1 at some bit of mask."""
    return tuple([bit for bit, word in enumerate(words) if word & mask])


def same_sizes(one, other):
    """Whether two Spreads have as many bits, slot words and lane words."""
    if one.bits != other.bits or len(one.slots) != len(other.slots):
        return False
    return len(one.lanes) == len(other.lanes)


def renaming(one, other):
    """The Map change with one.renamed(change) == other; None if there is none."""
    check_spread(one)
    check_spread(other)
    if not same_sizes(one, other) or one.copies() != other.copies():
        return None
    return other.placing() // one.placing()


def hold_alike(one, other):
    """Whether each lane holds the same entries in both Spreads."""
    check_spread(one)
    check_spread(other)
    if one.bits != other.bits or len(one.lanes) != len(other.lanes):
        return False
    slot_space = one.slot_space()
    if slot_space != other.slot_space():
        return False
    return all([word ^ wanted in slot_space for word, wanted in zip(one.lanes, other.lanes)])


def matching(one, other):
    """The Maps of entries, slots and lanes that turn one Spread into the other, a triple; None if there are none."""
    check_spread(one)
    check_spread(other)
    if not same_sizes(one, other) or one.slot_space().dimension != other.slot_space().dimension:
        return None
    if one.lane_space().dimension != other.lane_space().dimension:
        return None
    return tuple([after * ~before for before, after in zip(fitted_bases(one), fitted_bases(other))])


def fitted_bases(spread):
    """Maps from units to entries, slots and lanes that give all Spreads with the same five numbers the same form."""
    slot_space = spread.slot_space()
    lane_space = spread.lane_space()
    shared = slot_space & lane_space
    in_slots = shared.rows + shared.completing(slot_space)
    in_lanes = shared.completing(lane_space)
    slots = lifted(Map(spread.bits, spread.slots), in_slots)
    lanes = lifted(Map(spread.bits, spread.lanes), shared.rows + in_lanes)
    return [Map(spread.bits, in_slots + in_lanes), slots, lanes]


def lifted(placing, words):
    """The Map that leads units to origins of the words, which span all images, and further ones to the kernel."""
    joined = joined_rows(placing.columns)
    origins = [solved(joined, placing.source, word) for word in words]
    return Map(placing.source, origins + kernel_rows(joined, placing.source))
