"""Wrong arguments: each place of a call with each wrong value, alone and two at once."""

from itertools import combinations

from laneswap.errors import BadValue
from laneswap.families import Family
from laneswap.maps import Map
from laneswap.sizes import Size, Sizes
from laneswap.spaces import Space
from laneswap.spreads import Spread
from laneswap.tables import Table
from laneswap.threes import Three

STRANGE = object()


class Place:
    """A place of a call: its name, a good value, and pairs of a wrong value and what BadValue tells of it."""

    def __init__(self, name, good, wrong):
        self.name = name
        self.good = good
        self.wrong = wrong


def themselves(values):
    return [(value, value) for value in values]


def no_wholes():
    return [None, -1, True, False, "1", "", [1], (1,), {}, 1.0, b"1", STRANGE, Space(1, [1]), Size([], [1], 0)]


def whole(name, good):
    return Place(name, good, themselves(no_wholes()))


def below(name, good, limit):
    return Place(name, good, themselves(no_wholes() + [limit, limit + 7, 1 << 300]))


def word(name, good, bits):
    return below(name, good, 1 << bits)


def list_of(name, good, wrong_items):
    """A list whose items are not as described if they are among some, in the first place, the last one and between."""
    wrong = themselves([None, -1, 3, True, "1", "", {}, {1: 2}, {1}, STRANGE, Space(1, [1]), Map(1, [1])])
    for item in wrong_items:
        for values in ([item], [*good, item], [item, *good], [*good, item, *good], [*good, item, None, item]):
            wrong += [(values, item), (tuple(values), item)]
    return Place(name, good, wrong)


def wholes(name, good):
    return list_of(name, good, no_wholes())


def words(name, good, bits):
    return list_of(name, good, no_wholes() + [1 << bits, (2 << bits) + 1])


def objects():
    """Values that are no Space, Map, Spread or Table of 1 to 9 bits."""
    return [None, -1, 0, True, "a", [1], (), STRANGE, Space(11, [1]), Map(12, [1] * 13), Map(12, []),
            Spread(14, [1 << bit for bit in range(14)], []), Table([("a", 15)]), Size([], [1], 0), Sizes([], 0, 2, [1]),
            Family([("a", 0)], [("a", 0)], []), Three(Space(11, [1]), Space(11, [2]), Space(11, [3]))]


def space(name, good):
    bits = good.bits
    return Place(name, good, themselves(objects() + [Space(bits + 1, [1]), Map(bits, good.rows)]))


def any_space(name, good):
    wrong = [value for value in objects() if not isinstance(value, Space)]
    return Place(name, good, themselves(wrong))


def spaces_list(name, good):
    """A list of Spaces of the same bits."""
    place = list_of(name, good, [value for value in objects() if not isinstance(value, Space)])
    place.wrong += themselves([[], (), [*good, Space(11, [1])], (Space(12, []), *good)])
    return place


def any_spread(name, good):
    wrong = [value for value in objects() if not isinstance(value, Spread)]
    return Place(name, good, themselves(wrong))


def spread(name, good):
    bits = good.bits
    other = Spread(bits + 1, [1 << bit for bit in range(bits + 1)], [])
    return Place(name, good, themselves(objects() + [other]))


def told_map(name, good, wrong_maps):
    """A place of a Map of which only some sizes are wrong."""
    wrong = [value for value in objects() if not isinstance(value, Map)]
    return Place(name, good, themselves(wrong + wrong_maps))


def expect_bad(test, call, expected, told):
    try:
        call()
    except BadValue as error:
        test.assertIs(error.value, expected, told)
    else:
        test.fail(f"no BadValue: {told}")


def check_wrong(test, function, places, named=True):
    """Each wrong value raises BadValue; of two wrong ones the one further left tells."""
    for at, place in enumerate(places):
        for passed, expected in place.wrong:
            values = [each.good for each in places]
            values[at] = passed
            expect_bad(test, lambda: function(*values), expected, (place.name, passed))
            if named:
                by_name = {each.name: value for each, value in zip(places, values)}
                expect_bad(test, lambda: function(**by_name), expected, (place.name, passed))
    for (left, first), (right, second) in combinations(enumerate(places), 2):
        for passed, expected in first.wrong:
            for other, _ in second.wrong:
                values = [each.good for each in places]
                values[left] = passed
                values[right] = other
                expect_bad(test, lambda: function(*values), expected, (first.name, passed, other))


def check_names(test, function, places):
    """The good values give the same by position, by name, and by both."""
    values = [place.good for place in places]
    for many in range(len(places) + 1):
        by_name = {place.name: place.good for place in places[many:]}
        result = function(*values[:many], **by_name)
        if hasattr(type(result), "__eq__") and type(result).__eq__ is not object.__eq__:
            test.assertEqual(result, function(*values))
