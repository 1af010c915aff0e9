"""Ranks of families at all sizes: of one, of families done one behind the other, of sums and meets of images."""

from laneswap.bands import LINE, POINT, Bands
from laneswap.checks import check_list
from laneswap.errors import BadValue, NotChained, OtherTracks
from laneswap.families import bands_of, check_family
from laneswap.sizes import Size
from laneswap.sweeps import rank_line


def check_families(values):
    """BadValue unless values is a list of one Family or more."""
    check_list(values)
    for value in values:
        check_family(value)
    if len(values) == 0:
        raise BadValue(values)


def check_equal_outs(families):
    """OtherTracks unless all Families have the same out tracks."""
    if any([family.outs != families[0].outs for family in families]):
        raise OtherTracks()


def bits_size(tracks):
    """The Size of the number of bits of all tracks together."""
    return Size((), (sum([extra for _, extra in tracks]),), len(tracks))


def rank_size(family):
    """The Size of the rank of a Family."""
    check_family(family)
    return rank_line(bands_of(family))


def chain_size(families):
    """The Size of the rank of Families done one behind the other, the last one of the list first."""
    check_families(families)
    for index in range(len(families) - 1):
        if families[index].ins != families[index + 1].outs:
            raise NotChained(index)
    found = rank_line(chained([bands_of(family) for family in families]))
    for family in families[:-1]:
        found = found - bits_size(family.ins)
    return found


def joined_size(families):
    """The Size of the dimension of the sum of the images."""
    check_families(families)
    check_equal_outs(families)
    return rank_line(joined([bands_of(family) for family in families]))


def common_size(families):
    """The Size of the dimension of what all images have in common."""
    check_families(families)
    check_equal_outs(families)
    # The kernel of the linked bands has as many dimensions as the kernels of all and what the images have in common.
    found = rank_line(linked([bands_of(family) for family in families])) * -1
    for family in families:
        found = found + rank_size(family)
    return found


def one_to_one(family):
    """The set of sizes at which a Family is one to one."""
    check_family(family)
    return rank_size(family).equal_at(bits_size(family.ins))


def onto(family):
    """The set of sizes at which a Family is onto."""
    check_family(family)
    return rank_size(family).equal_at(bits_size(family.outs))


def apart(one, other):
    """The least size at which the columns of two Families are unlike; None if there is none."""
    check_family(one)
    check_family(other)
    # Equal rules cancel each other: where nothing is left, the columns are alike.
    return (~rank_size(one + other).equal_at(0)).least()


def moved_rule(rule, out, source):
    """A rule of bands as one of further bands, whose tracks stand behind so many others."""
    if rule[0] == POINT:
        return (POINT, rule[1] + out, rule[2], rule[3] + source, rule[4])
    return (rule[0], rule[1] + out, rule[2] + source, rule[3])


def moved_rules(bands, out, source):
    """The rules of bands whose tracks stand behind so many others."""
    return [moved_rule(rule, out, source) for rule in bands.rules]


def joined(several):
    """The Bands that lead to the sum of what several lead to."""
    ins = ()
    rules = []
    for bands in several:
        rules = rules + moved_rules(bands, 0, len(ins))
        ins = ins + bands.ins
    return Bands(several[0].outs, ins, rules)


def linked(several):
    """The Bands that lead to the sums of what each of several and the next one lead to."""
    many = len(several[0].outs)
    ins = ()
    rules = []
    for at, bands in enumerate(several):
        if at > 0:
            rules = rules + moved_rules(bands, (at - 1) * many, len(ins))
        if at < len(several) - 1:
            rules = rules + moved_rules(bands, at * many, len(ins))
        ins = ins + bands.ins
    return Bands(several[0].outs * (len(several) - 1), ins, rules)


def chained(several):
    """The Bands that lead to the first one's out bits and, for each next one, to its sums with the in bits ahead."""
    outs = ()
    ins = ()
    rules = []
    for index, bands in enumerate(several):
        rules = rules + moved_rules(bands, len(outs), len(ins))
        if index > 0:
            first = len(ins) - len(bands.outs)
            rules = rules + [(LINE, len(outs) + at, first + at, 0) for at in range(len(bands.outs))]
        outs = outs + bands.outs
        ins = ins + bands.ins
    return Bands(outs, ins, rules)
