"""Bands: rules over tracks that are told by their numbers and extras.

The rules have the forms of those of families, with the numbers of tracks in the place of their names.
"""

LINE = "line"
MIRROR = "mirror"
POINT = "point"


class Bands:
    """Rules from in tracks to out tracks; outs and ins are the extras of the tracks."""

    def __init__(self, outs, ins, rules):
        self.outs = tuple(outs)
        self.ins = tuple(ins)
        self.rules = tuple(rules)

    def in_bits(self, n, out, bit):
        """The pairs (in track, number) of the in bits that a bit of an out track gets, as often as it gets them."""
        found = []
        for rule in self.rules:
            if rule[1] == out:
                at = source_of(rule)
                number = in_number(rule, n, n + self.outs[out], n + self.ins[at], bit)
                if number is not None:
                    found.append((at, number))
        return found


def source_of(rule):
    """The in track of a rule."""
    if rule[0] == POINT:
        return rule[3]
    return rule[2]


def placed(place, size):
    """The number of the bit at a place, which below 0 counts from the top."""
    if place < 0:
        return size + place
    return place


def in_number(rule, n, out_size, in_size, bit):
    """The number of the in bit that a rule gives to an out bit; None if it gives none."""
    if rule[0] == LINE:
        number = bit + rule[3]
    elif rule[0] == MIRROR:
        number = n - 1 - bit + rule[3]
    elif placed(rule[2], out_size) == bit:
        number = placed(rule[4], in_size)
    else:
        return None
    if 0 <= number < in_size:
        return number
    return None
