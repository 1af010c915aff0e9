"""Rounds: the fewest in which lanes can hand each other what another spread wants."""

from laneswap.checks import check_below, check_word
from laneswap.errors import NotFitting
from laneswap.maps import Map, unit_map
from laneswap.reducing import image_of, joined_rows, least_missing, solved
from laneswap.spreads import check_spread


class RoundPlan:
    """A plan of rounds: in each one lane l takes entries(l) + w, for one word w of the wanted slot space.

    Each lane takes it from the lane givers(l) + h, where h is the least lane that holds w.
    The words of the slot space are numbered by the basis; those before first are not taken.
    """

    def __init__(self, start, basis, first, entries, givers):
        self.rounds = (1 << len(basis)) - first
        self._start = start
        self._basis = tuple(basis)
        self._joined = tuple(joined_rows(basis))
        self._first = first
        self._entries = entries
        self._givers = givers

    def take(self, number, lane):
        """The pair of giver and entry of a lane in a round; None if the lane takes nothing."""
        check_below(number, self.rounds)
        check_word(lane, len(self._start.lanes))
        word = image_of(self._basis, self._first + number)
        entry = self._entries(lane) ^ word
        if holds(self._start, lane, entry):
            return None
        return (self._givers(lane) ^ self._start.lane_of(word), entry)

    def when(self, lane, entry):
        """The number of the round in which a lane takes an entry; None if in none."""
        check_word(lane, len(self._start.lanes))
        check_word(entry, self._start.bits)
        number = solved(self._joined, len(self._basis), self._entries(lane) ^ entry)
        if number is None or holds(self._start, lane, entry):
            return None
        return number - self._first


def check_fitting(one, other):
    """NotFitting unless both Spreads have as many bits and as many lane words."""
    if one.bits != other.bits or len(one.lanes) != len(other.lanes):
        raise NotFitting()


def check_change(one, other):
    """BadValue or NotFitting unless a change leads from one to other."""
    check_spread(one)
    check_spread(other)
    check_fitting(one, other)


def holds(spread, lane, entry):
    """Whether a lane holds an entry."""
    return spread.entry(0, lane) ^ entry in spread.slot_space()


def both_spaces(one, other):
    """The Space of the sums of an entry of lane 0 in one and an entry of lane 0 in other."""
    return one.slot_space() + other.slot_space()


def common_space(one, other):
    """The Space of the entries that lane 0 holds both in one and in other."""
    return one.slot_space() & other.slot_space()


def lane_sums(one, other):
    """For each lane bit the sum of its words in both Spreads."""
    return [word ^ wanted for word, wanted in zip(one.lanes, other.lanes)]


def lucky_lanes(one, other):
    """The Space of the lanes that hold some of their wanted entries at the beginning."""
    return Map(one.bits, lane_sums(one, other)).origin(both_spaces(one, other))


def all_lucky(one, other):
    """Whether each lane holds some of its wanted entries at the beginning."""
    return lucky_lanes(one, other).dimension == len(one.lanes)


def lacked(one, other, lucky):
    """How many entries a lane lacks that does, or does not, hold some of them."""
    wanted = 1 << other.slot_space().dimension
    if lucky:
        return wanted - (1 << common_space(one, other).dimension)
    return wanted


def lacks(one, other, lane):
    """How many entries a lane lacks."""
    check_spread(one)
    check_spread(other)
    check_word(lane, len(one.lanes))
    check_fitting(one, other)
    return lacked(one, other, lane in lucky_lanes(one, other))


def fewest_rounds(one, other):
    """The fewest rounds of a change from one to other."""
    check_change(one, other)
    return lacked(one, other, all_lucky(one, other))


def short_lane(one, other):
    """The least lane that lacks as many entries as there are rounds."""
    check_change(one, other)
    lucky = lucky_lanes(one, other)
    if lucky.dimension == len(one.lanes):
        return 0
    return least_missing(lucky.rows)


def plan_rounds(one, other):
    """A RoundPlan of a change from one to other."""
    check_change(one, other)
    common = common_space(one, other)
    basis = common.rows + common.completing(other.slot_space())
    if all_lucky(one, other):
        return RoundPlan(one, basis, 1 << common.dimension, kept_entries(one, other), unit_map(len(one.lanes)))
    entries = spanning_entries(one, other)
    return RoundPlan(one, basis, 0, entries, own_givers(one, entries))


def held_parts(one, other, words):
    """For sums of both slot spaces a word of one's that has with the sum a sum in other's."""
    rows = one.slot_space().rows
    joined = joined_rows(rows + other.slot_space().rows)
    many = len(rows) + other.slot_space().dimension
    return [image_of(rows, solved(joined, many, word)) for word in words]


def kept_entries(one, other):
    """A Map from each lane to a wanted entry that it holds, where each lane holds some."""
    parts = held_parts(one, other, lane_sums(one, other))
    return Map(one.bits, [word ^ part for word, part in zip(one.lanes, parts)])


def spanning_entries(one, other):
    """A Map from each lane to a wanted entry, such that its image and one's slot space together span all words."""
    wanted = Map(one.bits, other.lanes)
    near = wanted.origin(both_spaces(one, other))
    missed = common_space(one, other).completing(other.slot_space())
    # These lanes want sums of both slot spaces. As many of them as words are missed are led to these,
    # by words of other's slot space and so within what they want.
    parts = held_parts(one, other, [wanted(lane) for lane in near.rows[:len(missed)]])
    images = [word ^ part for word, part in zip(missed, parts)]
    rest = near.rows[len(missed):] + near.complement().rows
    images = images + [wanted(lane) for lane in rest]
    lanes = Map(near.bits, near.rows + near.complement().rows)
    return Map(one.bits, images) * ~lanes


def own_givers(one, entries):
    """A Map from lanes to lanes that hold entries(lane) in one, unlike for unlike entries."""
    image = entries.image()
    alike = image & one.slot_space()
    basis = alike.rows + alike.completing(image)
    joined = joined_rows(basis)
    # Entries of one coset of the slot space are told apart by this part; unlike twins show them.
    twins = one.twins().rows[:alike.dimension]
    givers = []
    for entry in entries.columns:
        part = image_of(twins, solved(joined, len(basis), entry))
        givers.append(one.lane_of(entry) ^ part)
    return Map(len(one.lanes), givers)
