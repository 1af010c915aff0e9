"""Families: linear maps for each size, told by rules over tracks of bits."""

from laneswap.bands import LINE, MIRROR, POINT, Bands
from laneswap.checks import check_list, check_whole, is_integer, is_list, is_name, is_whole
from laneswap.errors import BadRule, BadValue, OtherTracks
from laneswap.maps import Map


class Family:
    """At each size the linear map that the rules tell from the bits of the in tracks to those of the out tracks."""

    def __init__(self, outs, ins, rules):
        check_tracks(outs)
        check_tracks(ins)
        check_list(rules)
        self.outs = tuple([(name, extra) for name, extra in outs])
        self.ins = tuple([(name, extra) for name, extra in ins])
        out_names = [name for name, _ in outs]
        in_names = [name for name, _ in ins]
        for index, rule in enumerate(rules):
            if not is_rule(rule, out_names, in_names):
                raise BadRule(index)
        self.rules = tuple(rules)

    def __eq__(self, other):
        if not isinstance(other, Family) or self.outs != other.outs:
            return False
        return self.ins == other.ins and self.rules == other.rules

    def __add__(self, other):
        check_family(other)
        if self.outs != other.outs or self.ins != other.ins:
            raise OtherTracks()
        return Family(self.outs, self.ins, self.rules + other.rules)

    def sized(self, n):
        """The Map of a size."""
        check_whole(n)
        bands = bands_of(self)
        firsts = first_bits(bands.ins, n)
        columns = [0] * firsts[-1]
        unit = 1
        for out, extra in enumerate(bands.outs):
            for bit in range(n + extra):
                for at, number in bands.in_bits(n, out, bit):
                    columns[firsts[at] + number] = columns[firsts[at] + number] ^ unit
                unit = unit << 1
        return Map(unit.bit_length() - 1, columns)


def check_family(value):
    """BadValue unless value is a Family."""
    if not isinstance(value, Family):
        raise BadValue(value)


def is_track(value):
    """Whether value is a pair of a name and an extra."""
    return is_list(value) and len(value) == 2 and is_name(value[0]) and is_whole(value[1])


def check_tracks(values):
    """BadValue unless values is a list of tracks with unlike names."""
    check_list(values)
    for value in values:
        if not is_track(value):
            raise BadValue(value)
    if len(set([name for name, _ in values])) < len(values):
        raise BadValue(values)


def is_rule(value, out_names, in_names):
    """Whether value is a rule for tracks with these names."""
    if not isinstance(value, tuple) or len(value) not in (4, 5) or value[1] not in out_names:
        return False
    if len(value) == 4:
        return value[0] in (LINE, MIRROR) and value[2] in in_names and is_integer(value[3])
    return value[0] == POINT and is_integer(value[2]) and value[3] in in_names and is_integer(value[4])


def first_bits(extras, n):
    """For each track the number of its lowest bit in words of a size, and last the number of all bits."""
    found = [0]
    for extra in extras:
        found.append(found[-1] + n + extra)
    return found


def bands_of(family):
    """The Bands of a Family: its rules with the numbers of tracks in the place of their names."""
    out_names = [name for name, _ in family.outs]
    in_names = [name for name, _ in family.ins]
    rules = []
    for rule in family.rules:
        if rule[0] == POINT:
            rules.append((POINT, out_names.index(rule[1]), rule[2], in_names.index(rule[3]), rule[4]))
        else:
            rules.append((rule[0], out_names.index(rule[1]), in_names.index(rule[2]), rule[3]))
    return Bands([extra for _, extra in family.outs], [extra for _, extra in family.ins], rules)
