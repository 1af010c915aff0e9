"""Prices: what a change costs by rounds, and through a store."""

from laneswap.checks import check_whole
from laneswap.errors import BadValue
from laneswap.rounds import check_fitting, common_space, fewest_rounds
from laneswap.spreads import check_spread


class Prices:
    """What a round of a change, a transfer and each of its beats cost."""

    def __init__(self, swap, transfer, beat):
        check_whole(swap)
        check_whole(transfer)
        check_whole(beat)
        self.swap = swap
        self.transfer = transfer
        self.beat = beat


def check_prices(one, other, prices):
    """BadValue unless two Spreads and Prices are given."""
    check_spread(one)
    check_spread(other)
    if not isinstance(prices, Prices):
        raise BadValue(prices)


def check_banks(spread, banks):
    """BadValue unless banks is a number of bank bits at which nothing that a write touches need meet."""
    check_whole(banks)
    if not min(spread.bits, len(spread.lanes)) <= banks <= spread.bits:
        raise BadValue(banks)


def by_rounds(one, other, prices):
    """What a change from one to other by the fewest rounds costs."""
    check_prices(one, other, prices)
    return prices.swap * fewest_rounds(one, other)


def by_store(one, other, prices, banks, widest):
    """The least cost of a change through a store: the tuple of it, the width of the writes and that of the reads."""
    check_prices(one, other, prices)
    check_banks(one, banks)
    check_whole(widest)
    check_fitting(one, other)
    limit = min(banks, widest)
    held = one.slot_space().dimension
    wanted = other.slot_space().dimension
    common = common_space(one, other).dimension
    found = []
    for writing in range(min(limit, held) + 1):
        written = writing_cost(one, prices, writing)
        for reading in range(min(limit, wanted) + 1):
            # There is a chain exactly if the narrower space may lie in both slot spaces.
            if min(writing, reading) <= common:
                found.append((written + reading_cost(other, prices, reading), writing, reading))
    return min(found)


def writing_cost(spread, prices, width):
    """What it costs to write all entries with transfers of this width."""
    many = max(0, spread.bits - len(spread.lanes) - width)
    return transfers_cost(spread, prices, many, width)


def reading_cost(spread, prices, width):
    """What it costs to read the entries of all slots with transfers of this width."""
    return transfers_cost(spread, prices, spread.slot_space().dimension - width, width)


def transfers_cost(spread, prices, many, width):
    """What 2 ** many transfers of this width cost that nothing meets in."""
    beats = 1 << min(width, len(spread.lanes))
    return (1 << many) * (prices.transfer + beats * prices.beat)
