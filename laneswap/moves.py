"""Moves: entries change their places, by a map of place words that can be undone."""

from laneswap.checks import check_below
from laneswap.errors import BadValue, HasCopies, NotFitting
from laneswap.maps import Map, check_one_to_one, unit_map
from laneswap.reducing import low_bits, units
from laneswap.rounds import check_change


def check_move(move, slots):
    """BadValue or NotOneToOne unless move is a move of places with so many slot bits."""
    if not isinstance(move, Map) or move.goal != move.source:
        raise BadValue(move)
    check_below(slots, move.source + 1)
    check_one_to_one(move)


def move_between(one, other):
    """The move that leads each place of one to the place of the same entry in other."""
    check_change(one, other)
    if len(one.slots) != len(other.slots):
        raise NotFitting()
    if len(one.slots) + len(one.lanes) > one.bits:
        raise HasCopies()
    return ~other.placing() * one.placing()


def keeps_lanes(move, slots):
    """Whether a move keeps the lane of each place."""
    check_move(move, slots)
    return all([(column ^ unit) >> slots == 0 for column, unit in zip(move.columns, units(move.source))])


def keeps_slots(move, slots):
    """Whether a move keeps the slot of each place."""
    check_move(move, slots)
    return all([low_bits(column ^ unit, slots) == 0 for column, unit in zip(move.columns, units(move.source))])


def is_even(move, slots):
    """Whether images of places with the same slot have the same slot."""
    check_move(move, slots)
    return all([low_bits(column, slots) == 0 for column in move.columns[slots:]])


def blocks(move, slots):
    """The Maps G, C, Q and H of the document: each place (s, l) has the image (G(s) + Q(l), C(s) + H(l))."""
    found = []
    for columns in (move.columns[:slots], move.columns[slots:]):
        found.append(Map(slots, [low_bits(column, slots) for column in columns]))
        found.append(Map(move.source - slots, [column >> slots for column in columns]))
    return found


def can_be_undone(change):
    """Whether a Map with as many bits in its goal as in its source can be undone."""
    return change.rank() == change.source


def uneven_parts(move, slots):
    """The number of slot moves of a split that must be uneven."""
    if is_even(move, slots):
        return 0
    found = blocks(move, slots)
    if can_be_undone(found[0]) or can_be_undone(found[3]):
        return 1
    return 2


def split_move(move, slots):
    """A slot move, a lane move and a slot move, one behind the other the move; as few as can be are uneven."""
    check_move(move, slots)
    slots_to_slots, slots_to_lanes, lanes_to_slots, lanes_to_lanes = blocks(move, slots)
    if can_be_undone(slots_to_slots) and not can_be_undone(lanes_to_lanes):
        across = slots_to_lanes * ~slots_to_slots
        middle = lane_move(across, lanes_to_lanes + across * lanes_to_slots)
        return (slot_move(slots_to_slots, lanes_to_slots), middle, unit_map(move.source))
    # Nothing is filled up if the lanes' own part can be undone: then the first slot move changes nothing.
    filling = filled_up(slots_to_lanes, lanes_to_lanes)
    full = lanes_to_lanes + slots_to_lanes * filling
    rest = (lanes_to_slots + slots_to_slots * filling) * ~full
    first = slot_move(unit_map(slots), filling)
    return (first, lane_move(slots_to_lanes, full), slot_move(slots_to_slots + rest * slots_to_lanes, rest))


def filled_up(slots_to_lanes, lanes_to_lanes):
    """A Map from lanes to slots, 0 beside the kernel of lanes_to_lanes, that leads this kernel to slots.

    lanes_to_lanes + slots_to_lanes * this can be undone.
    """
    kernel = lanes_to_lanes.kernel()
    missed = lanes_to_lanes.image().completing(slots_to_lanes.image())
    images = [slots_to_lanes.solve(word) for word in missed]
    beside = kernel.complement().rows
    basis = Map(kernel.bits, kernel.rows + beside)
    return Map(slots_to_lanes.source, images + [0] * len(beside)) * ~basis


def slot_move(within, across):
    """The slot move of (s, l) to (within(s) + across(l), l)."""
    lanes = across.source
    still = Map(lanes, [0] * within.source)
    return within.stacked(still).beside(across.stacked(unit_map(lanes)))


def lane_move(across, within):
    """The lane move of (s, l) to (s, across(s) + within(l))."""
    slots = across.source
    still = Map(slots, [0] * within.source)
    return unit_map(slots).stacked(across).beside(still.stacked(within))
