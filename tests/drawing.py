"""Drawn spreads and maps, always the same for the same seed."""

import random
from itertools import permutations, product

from laneswap.families import Family
from laneswap.maps import Map, unit_map
from laneswap.spaces import Space
from laneswap.spreads import Spread


def drawn_undoable(draw, bits):
    """A Map of so many bits that can be undone."""
    while True:
        made = Map(bits, [draw.randrange(2 ** bits) for _ in range(bits)])
        if made.rank() == bits:
            return made


def drawn_spread(draw, bits, slots, lanes=None):
    """A Spread of so many bits, slot words and lane words; with as many lane words as are needed, or more, if not told."""
    many = lanes
    while True:
        if lanes is None:
            many = max(0, bits - slots) + draw.randrange(3)
        slot_words = thinned(draw, [draw.randrange(2 ** bits) for _ in range(slots)])
        lane_words = thinned(draw, [draw.randrange(2 ** bits) for _ in range(many)])
        if Space(bits, slot_words + lane_words).dimension == bits:
            return Spread(bits, slot_words, lane_words)


def thinned(draw, words):
    """Words of which some may be 0, or equal an earlier one."""
    found = []
    for word in words:
        found.append(draw.choice([word, word, word, word, draw.choice(found or [0]), 0]))
    return found


def drawn_spreads(seed, many, most=3):
    """So many Spreads of at most so many bits, with and without copies."""
    draw = random.Random(seed)
    for _ in range(many):
        bits = draw.randrange(most + 1)
        yield drawn_spread(draw, bits, draw.randrange(most + 1))


def places_of(spread):
    """The entry at each place (slot, lane), told without the spread's own ways."""
    found = {}
    for slot in range(2 ** len(spread.slots)):
        for lane in range(2 ** len(spread.lanes)):
            entry = 0
            for bit, word in enumerate(spread.slots):
                entry ^= word * (slot // 2 ** bit % 2)
            for bit, word in enumerate(spread.lanes):
                entry ^= word * (lane // 2 ** bit % 2)
            found[slot, lane] = entry
    return found


def drawn_changes(seed, many, most=3):
    """Pairs of Spreads that fit, of few bits, with and without copies."""
    draw = random.Random(seed)
    for _ in range(many):
        bits = draw.randrange(most + 1)
        one = drawn_spread(draw, bits, draw.randrange(most + 1))
        lanes = len(one.lanes)
        slots = max(0, bits - lanes) + draw.randrange(3)
        yield one, drawn_spread(draw, bits, slots, lanes)


def held_by(spread):
    """The set of entries of each lane, told place by place."""
    found = []
    for lane in range(2 ** len(spread.lanes)):
        found.append({spread.entry(slot, lane) for slot in range(2 ** len(spread.slots))})
    return found


def all_undoable(bits):
    """All Maps of so few bits that can be undone."""
    words = range(1, 2 ** bits)
    return [made for made in (Map(bits, columns) for columns in permutations(words, bits)) if made.rank() == bits]


def drawn_map(draw, goal, source):
    """A Map to so many bits, with so many columns."""
    return Map(goal, [draw.randrange(2 ** goal) for _ in range(source)])


def move_of(within_slots, to_lanes, to_slots, within_lanes):
    """The Map of place words that leads (s, l) to (within_slots(s) + to_slots(l), to_lanes(s) + within_lanes(l))."""
    return within_slots.stacked(to_lanes).beside(to_slots.stacked(within_lanes))


def zero_map(goal, source):
    return Map(goal, [0] * source)


def drawn_slot_move(draw, slots, lanes, uneven=True):
    to_slots = drawn_map(draw, slots, lanes) if uneven else zero_map(slots, lanes)
    return move_of(drawn_undoable(draw, slots), zero_map(lanes, slots), to_slots, unit_map(lanes))


def drawn_lane_move(draw, slots, lanes):
    return move_of(unit_map(slots), drawn_map(draw, lanes, slots), zero_map(slots, lanes), drawn_undoable(draw, lanes))


def drawn_moves(draw, slots, lanes):
    """Moves of each kind with so many slot bits and lane bits."""
    slot_move, even = drawn_slot_move(draw, slots, lanes), drawn_slot_move(draw, slots, lanes, False)
    lane_move = drawn_lane_move(draw, slots, lanes)
    few = [drawn_undoable(draw, slots + lanes), slot_move, even, lane_move, lane_move * even, even * lane_move,
           lane_move * slot_move, slot_move * lane_move, drawn_slot_move(draw, slots, lanes) * lane_move * slot_move]
    bits = list(range(slots + lanes))
    draw.shuffle(bits)
    # Moves that lead bits to bits have blocks of all ranks.
    return few + [unit_map(slots + lanes), Map(slots + lanes, [1 << bit for bit in bits])]


def drawn_far(draw, bits, slots, lanes):
    """A Spread of so many bits, slot words and lane words, of as many bits as one likes."""
    words = list(drawn_undoable(draw, bits).columns)
    words += thinned(draw, [draw.getrandbits(bits) for _ in range(slots + lanes - bits)])
    draw.shuffle(words)
    return Spread(bits, words[:slots], words[slots:])


def drawn_plain(draw, slots, lanes):
    """A Spread without copies."""
    return drawn_far(draw, slots + lanes, slots, lanes)


def drawn_space(draw, bits):
    """A Space of so few bits, of any dimension."""
    return Space(bits, [draw.randrange(2 ** bits) for _ in range(draw.randrange(bits + 2))])


def all_spaces(bits):
    """All Spaces of so few bits."""
    found = []
    for words in product(range(2 ** bits), repeat=bits):
        made = Space(bits, words)
        if made not in found:
            found.append(made)
    return found


def drawn_triple(draw, bits, numbers):
    """Three Spaces with these nine numbers, which fill the bits."""
    words = list(drawn_undoable(draw, bits).columns)
    sets = [(0, 1, 2), (0, 1), (0, 2), (1, 2), None, (0,), (1,), (2,), ()]
    held = [[], [], []]
    for many, chosen in zip(numbers, sets):
        for _ in range(many):
            one = words.pop()
            if chosen is None:
                two = words.pop()
                for at, word in enumerate((one, two, one ^ two)):
                    held[at].append(word)
            else:
                for at in chosen:
                    held[at].append(one)
    return [Space(bits, each) for each in held]


def kernels_of_all_maps(bits, banks):
    """The kernels of all maps from so few bits to so many, each once: its words as the bits that are 1 in a number."""
    found = set()
    for columns in product(range(2 ** banks), repeat=bits):
        images = [0]
        for column in columns:
            images += [image ^ column for image in images]
        found.add(sum([1 << word for word, image in enumerate(images) if image == 0]))
    return sorted(found)


def marked(space):
    """The words of a Space of few bits, as the bits that are 1 in a number."""
    return sum([1 << word for word in space.listed()])


def drawn_tracks(draw, names="abcd"):
    """At most two tracks."""
    return [(name, draw.choice((0, 0, 0, 1, 3))) for name in draw.sample(names, draw.choice((0, 1, 1, 1, 2, 2)))]


def drawn_family(draw, outs, ins, many):
    """A Family with so many rules, none where there are no tracks."""
    rules = []
    for _ in range(many if outs and ins else 0):
        out, source, kind = draw.choice(outs)[0], draw.choice(ins)[0], draw.choice(("line", "line", "mirror", "point"))
        if kind == "point":
            rules.append((kind, out, draw.randrange(-4, 4), source, draw.randrange(-4, 4)))
        else:
            rules.append((kind, out, source, draw.randrange(-2, 3)))
        if draw.randrange(9) == 0:
            rules.append(draw.choice(rules))
    return Family(outs, ins, rules)


def images_of(family, n):
    """The columns of a Family at a size, told rule by rule as the document does."""
    outs = {(name, bit): 0 for name, extra in family.outs for bit in range(n + extra)}
    outs = {key: number for number, key in enumerate(outs)}
    ins = {(name, bit): 0 for name, extra in family.ins for bit in range(n + extra)}
    ins = {key: number for number, key in enumerate(ins)}
    columns = [0] * len(ins)
    for rule in family.rules:
        if rule[0] == "point":
            _, out, place, source, origin = rule
            place += 0 if place >= 0 else n + dict(family.outs)[out]
            origin += 0 if origin >= 0 else n + dict(family.ins)[source]
            pairs = [((out, place), (source, origin))]
        elif rule[0] == "line":
            pairs = [((rule[1], bit), (rule[2], bit + rule[3])) for bit in range(n + 9)]
        else:
            pairs = [((rule[1], bit), (rule[2], n - 1 - bit + rule[3])) for bit in range(n + 9)]
        for goal, source in pairs:
            if goal in outs and source in ins:
                columns[ins[source]] ^= 1 << outs[goal]
    return columns
