"""Hops: each lane takes what it likes from the lane that differs from it by a step, and keeps its own."""

from laneswap.checks import check_word
from laneswap.errors import NotWanted
from laneswap.maps import Map
from laneswap.reducing import joined_rows, solved
from laneswap.rounds import both_spaces, check_change, holds, lane_sums
from laneswap.spaces import Space


class HopPlan:
    """A plan of hops, whose steps and one's twins tell in one way what leads a lane to a giver of what it wants."""

    def __init__(self, one, other, steps):
        self.steps = tuple(steps)
        self._one = one
        self._other = other
        self._ways = self.steps + one.twins().rows
        self._joined = tuple(joined_rows(self._ways))

    def route(self, lane, entry):
        """The tuple of the lanes that hold an entry one behind the other, up to a lane that wants it."""
        check_word(lane, len(self._one.lanes))
        check_word(entry, self._one.bits)
        if not holds(self._other, lane, entry):
            raise NotWanted()
        way = solved(self._joined, len(self._ways), lane ^ self._one.lane_of(entry))
        taken = [step * (way >> hop & 1) for hop, step in enumerate(self.steps)]
        found = [lane]
        for step in taken[::-1]:
            found.append(found[-1] ^ step)
        return tuple(found[::-1])


def crossing(one, other):
    """The Space of the sums of a lane and a lane that holds, in one, an entry that the first one wants."""
    ways = both_spaces(one, other) + Space(one.bits, lane_sums(one, other))
    return Map(one.bits, one.lanes).origin(ways)


def fewest_hops(one, other):
    """The fewest hops of a change from one to other."""
    check_change(one, other)
    return crossing(one, other).dimension - one.twins().dimension


def plan_hops(one, other):
    """A HopPlan of a change from one to other."""
    check_change(one, other)
    return HopPlan(one, other, one.twins().completing(crossing(one, other)))
