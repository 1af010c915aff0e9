"""Stages: exchanges between lanes that differ by one number, and the fewest of a move."""

from laneswap.checks import check_whole, check_word, is_word
from laneswap.errors import BadValue, OddStep
from laneswap.maps import Map, unit_map
from laneswap.moves import check_move, split_move
from laneswap.reducing import grown, least_of, units
from laneswap.words import odd, word_of


class Stage:
    """Exchanges the entries at p and p + 2 ** slot_bits * step, for all place words p that meet the test oddly."""

    def __init__(self, slot_bits, lane_bits, step, test):
        check_whole(slot_bits)
        check_whole(lane_bits)
        if not is_word(step, lane_bits) or step == 0:
            raise BadValue(step)
        check_word(test, slot_bits + lane_bits)
        if odd(step, test >> slot_bits):
            raise OddStep()
        self.slot_bits = slot_bits
        self.lane_bits = lane_bits
        self.step = step
        self.test = test

    def place(self, word):
        """The place word to which the entry at a place word goes."""
        check_word(word, self.slot_bits + self.lane_bits)
        if odd(word, self.test):
            return word ^ (self.step << self.slot_bits)
        return word

    def moving(self):
        """The Map that leads each place word to that to which its entry goes."""
        bits = self.slot_bits + self.lane_bits
        return Map(bits, [self.place(unit) for unit in units(bits)])


class StagePlan:
    """A slot move, stages and a slot move, which together are a move."""

    def __init__(self, first, stages, last):
        self.first = first
        self.stages = tuple(stages)
        self.last = last


def drift(move, slots):
    """The Map from each place word to the sum of its lane and the lane of its image."""
    check_move(move, slots)
    sums = [column ^ unit for column, unit in zip(move.columns, units(move.source))]
    return Map(move.source - slots, [word >> slots for word in sums])


def fewest_stages(move, slots):
    """The fewest stages of a move."""
    return drift(move, slots).rank()


def drifting(move, slots):
    """A tuple of as many place words as stages are needed, with independent drifts."""
    rows = []
    found = []
    for bit, word in enumerate(drift(move, slots).columns):
        if least_of(rows, word):
            rows = grown(rows, word)
            found.append(1 << bit)
    return tuple(found)


def plan_stages(move, slots):
    """A StagePlan of a move with the fewest stages."""
    first, middle, last = split_move(move, slots)
    return StagePlan(first, lane_stages(middle, slots), last)


def lane_stages(move, slots):
    """A list of as few Stages as can be, in the order of working, that are a lane move together."""
    rest = move
    undone = ~move
    found = []
    while rest != unit_map(move.source):
        stage = lessening(rest, undone, slots)
        exchange = stage.moving()
        found.append(stage)
        rest = exchange * rest
        undone = undone * exchange
    # The stages found lead the move back to no move, and each undoes itself: so the last one works first.
    return found[::-1]


def lessening(move, undone, slots):
    """A Stage behind which fewer stages are needed for a lane move that changes something."""
    unit = unit_map(move.source)
    word = max((move + unit).columns)
    sums = undone + unit
    # The sum of word and the place that comes to it is not word itself: some words tell them apart.
    apart = Map(move.source, [word, sums(word)]).turned().solve(1)
    test = word_of([bit for bit, image in enumerate(sums.columns) if odd(image, apart)])
    return Stage(slots, move.source - slots, word >> slots, test)
