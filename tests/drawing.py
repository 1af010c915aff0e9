"""Drawn spreads and maps, always the same for the same seed."""

import random

from laneswap.maps import Map
from laneswap.spaces import Space
from laneswap.spreads import Spread


def drawn_undoable(draw, bits):
    """A Map of so many bits that can be undone."""
    while True:
        made = Map(bits, [draw.randrange(2 ** bits) for _ in range(bits)])
        if made.rank() == bits:
            return made


def drawn_spread(draw, bits, slots, lanes=None):
    """A Spread of so many bits, slot words and lane words; with as many lane words as are needed, or more, if not told."""
    many = lanes
    while True:
        if lanes is None:
            many = max(0, bits - slots) + draw.randrange(3)
        slot_words = thinned(draw, [draw.randrange(2 ** bits) for _ in range(slots)])
        lane_words = thinned(draw, [draw.randrange(2 ** bits) for _ in range(many)])
        if Space(bits, slot_words + lane_words).dimension == bits:
            return Spread(bits, slot_words, lane_words)


def thinned(draw, words):
    """Words of which some may be 0, or equal an earlier one."""
    found = []
    for word in words:
        found.append(draw.choice([word, word, word, word, draw.choice(found or [0]), 0]))
    return found


def drawn_spreads(seed, many, most=3):
    """So many Spreads of at most so many bits, with and without copies."""
    draw = random.Random(seed)
    for _ in range(many):
        bits = draw.randrange(most + 1)
        yield drawn_spread(draw, bits, draw.randrange(most + 1))


def places_of(spread):
    """The entry at each place (slot, lane), told without the spread's own ways."""
    found = {}
    for slot in range(2 ** len(spread.slots)):
        for lane in range(2 ** len(spread.lanes)):
            entry = 0
            for bit, word in enumerate(spread.slots):
                entry ^= word * (slot // 2 ** bit % 2)
            for bit, word in enumerate(spread.lanes):
                entry ^= word * (lane // 2 ** bit % 2)
            found[slot, lane] = entry
    return found
