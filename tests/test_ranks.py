import random
import time
import unittest

from laneswap.errors import BadValue, NotChained, OtherTracks
from laneswap.families import Family
from laneswap.ranks import apart, chain_size, common_size, joined_size, one_to_one, onto, rank_size
from laneswap.sizes import Size, Sizes
from laneswap.spaces import Space
from laneswap.threes import Three
from tests.drawing import drawn_family, drawn_tracks
from tests.wrong import STRANGE, Place, check_names, check_wrong, list_of, themselves

NEAR = Family([("bank", 0)], [("col", 0)], [("line", "bank", "col", shift) for shift in (-1, 0, 1)])
SWAPPED = Family([("col", 0)], [("col", 0)], [("line", "col", "col", 0), ("mirror", "col", "col", 0)])
TRACK = [("col", 0)]


def same_line(size):
    """The line of a Size by its attributes."""
    return size.first, size.cycle, size.gain


def drawn_with(draw, outs, most=9):
    """A Family to these tracks."""
    return drawn_family(draw, outs, drawn_tracks(draw), draw.randrange(most))


def common_of(families, n):
    """The dimension of what the images at a size have in common."""
    common = families[0].sized(n).image()
    for family in families[1:]:
        common = common & family.sized(n).image()
    return common.dimension


def joined_of(families, n):
    found = families[0].sized(n)
    for family in families[1:]:
        found = found.beside(family.sized(n))
    return found.rank()


def chained_of(families, n):
    found = families[0].sized(n)
    for family in families[1:]:
        found = found * family.sized(n)
    return found.rank()


class RankTest(unittest.TestCase):

    def test_drawn_families(self):
        draw = random.Random(1)
        for _ in range(250):
            family = drawn_family(draw, drawn_tracks(draw), drawn_tracks(draw), draw.choice((1, 2, 3, 4, 6, 9, 14)))
            rank = rank_size(family)
            self.assertIsInstance(rank, Size)
            for n in [*range(12), draw.randrange(12, 24), draw.randrange(24, 41)]:
                self.assertEqual(rank(n), family.sized(n).rank(), (family.outs, family.ins, family.rules, n))

    def test_all_families_of_two_rules(self):
        rules = [("line", "a", "a", shift) for shift in range(-2, 3)] + [("mirror", "a", "a", shift) for shift in range(-2, 3)]
        rules += [("point", "a", out, "a", place) for out in range(-4, 4) for place in (-4, -1, 0, 3)]
        draw = random.Random(2)
        for one in rules:
            for other in draw.sample(rules, 4):
                family = Family([("a", draw.choice((0, 3)))], [("a", draw.choice((0, 2)))], [one, other])
                rank = rank_size(family)
                for n in range(14):
                    self.assertEqual(rank(n), family.sized(n).rank(), (family.outs, family.ins, one, other, n))

    def test_told_lines(self):
        wide = [("col", 3)]
        told = [(NEAR, ((), (0, 1, 1), 3)), (SWAPPED, ((), (0, 0), 1)), (Family(TRACK, TRACK, []), ((), (0,), 0)),
                (Family(TRACK, wide, [("line", "col", "col", 0)]), ((), (0,), 1)),
                (Family(wide, TRACK, [("line", "col", "col", 1)]), ((0,), (0,), 1)),
                (Family(wide, TRACK, [("line", "col", "col", -1)]), ((), (0,), 1)),
                (Family(wide, wide, [("mirror", "col", "col", 0)]), ((), (0,), 1)),
                (Family(wide, wide, [("mirror", "col", "col", 2)]), ((), (2,), 1)),
                (Family(TRACK, TRACK, [("line", "col", "col", 0)] * 2), ((), (0,), 0)),
                (Family(TRACK, TRACK, [("line", "col", "col", -2)]), ((0, 0), (0,), 1)),
                (Family(TRACK, TRACK, [("point", "col", 3, "col", -4)]), ((0, 0, 0, 0), (1,), 0)),
                (Family(TRACK, TRACK, [("point", "col", 0, "col", 0), ("point", "col", 0, "col", -1)]), ((0, 0), (1,), 0)),
                (Family([], TRACK, []), ((), (0,), 0)), (Family(wide, [], []), ((), (0,), 0)), (Family([], [], []), ((), (0,), 0))]
        for family, line in told:
            self.assertEqual(same_line(rank_size(family)), line, (family.outs, family.ins, family.rules))

    def test_polynomials(self):
        # Rows of shifts 0, 1, 4 over all sizes have full rank; with -2, 0, 2 both halves of the bits are met apart.
        shifts = {(-1, 1): lambda n: n - n % 2, (-2, 2): lambda n: n - (2 if n % 4 == 2 else n % 2),
                  (0, 1, 2): lambda n: n, (-1, 0, 1): lambda n: n - (n % 3 == 2)}
        for told, expected in shifts.items():
            family = Family(TRACK, TRACK, [("line", "col", "col", shift) for shift in told])
            rank = rank_size(family)
            for n in range(40):
                self.assertEqual(rank(n), expected(n), (told, n))
            self.assertEqual(rank(10 ** 30 + 2), expected(10 ** 30 + 2))

    def test_far_sizes(self):
        draw = random.Random(3)
        for _ in range(10):
            family = drawn_family(draw, [("a", draw.randrange(4))], [("b", draw.randrange(4)), ("c", 0)], 5)
            rank = rank_size(family)
            for n in (70, 83):
                self.assertEqual(rank(n), family.sized(n).rank())

    def test_most_rules(self):
        draw = random.Random(4)
        start = time.monotonic()
        for _ in range(20):
            family = drawn_family(draw, [("a", draw.randrange(4)), ("b", 0)], [("c", 3), ("d", draw.randrange(4))], 20)
            rank = rank_size(family)
            for n in (1, 5, 40):
                self.assertEqual(rank(n), family.sized(n).rank())
        self.assertLess(time.monotonic() - start, 60)


class SeveralTest(unittest.TestCase):

    def test_chains(self):
        draw = random.Random(5)
        for _ in range(120):
            tracks = [drawn_tracks(draw) for _ in range(draw.choice((2, 3, 3, 4)))]
            families = [drawn_family(draw, outs, ins, draw.randrange(7)) for outs, ins in zip(tracks, tracks[1:])]
            size = chain_size(families)
            for n in [*range(8), 13, draw.randrange(14, 30)]:
                self.assertEqual(size(n), chained_of(families, n), [each.rules for each in families])
        self.assertEqual(same_line(chain_size([NEAR, SWAPPED])), ((), (0, 0, 0, 1, 2, 1), 3))

    def test_sums_and_meets_of_images(self):
        draw = random.Random(6)
        for _ in range(120):
            outs = drawn_tracks(draw)
            families = [drawn_with(draw, outs) for _ in range(draw.choice((1, 2, 2, 3, 3)))]
            families = [draw.choice([family, families[0]]) for family in families]
            total, common = joined_size(families), common_size(families)
            for n in [*range(8), 13, draw.randrange(14, 30)]:
                self.assertEqual(total(n), joined_of(families, n))
                self.assertEqual(common(n), common_of(families, n))

    def test_one_alone(self):
        draw = random.Random(7)
        for _ in range(20):
            family = drawn_with(draw, drawn_tracks(draw))
            rank = rank_size(family)
            self.assertTrue(rank == chain_size([family]) == joined_size([family]) == common_size((family,)))

    def test_images_alike_within_one_another_and_apart(self):
        every = Family(TRACK, TRACK, [("line", "col", "col", 0)])
        turned = Family(TRACK, [("x", 0)], [("mirror", "col", "x", 0)])
        first = Family(TRACK, [("y", 5)], [("point", "col", 0, "y", 0)])
        last = Family(TRACK, [], [])
        line = Size([], [0], 1)
        self.assertTrue(common_size([every, turned]) == joined_size([every, turned]) == line)
        self.assertEqual(same_line(common_size([every, first, turned])), ((0,), (1,), 0))
        self.assertTrue(joined_size([first, last, every]) == line)
        self.assertEqual(common_size([every, last, turned]), Size([], [0], 0))
        # Three lines of a plane have nothing in common, though each lies in the sum of the others.
        index = [("row", 0), ("col", 0)]
        row, column = Family(index, TRACK, [("line", "col", "col", 0)]), Family(index, TRACK, [("line", "row", "col", 0)])
        slant = row + column
        self.assertEqual(common_size([row, column, slant]), Size([], [0], 0))
        self.assertEqual(joined_size([row, column, slant]), Size([], [0], 2))
        self.assertTrue(joined_size([row, column]) == joined_size([column, slant]) == joined_size([row, slant]))
        self.assertEqual(common_size([row, row, row]), line)

    def test_sets_of_sizes(self):
        draw = random.Random(8)
        for _ in range(60):
            family = drawn_family(draw, drawn_tracks(draw), drawn_tracks(draw), draw.randrange(5))
            for n in range(16):
                made = family.sized(n)
                self.assertIs(n in one_to_one(family), made.rank() == made.source)
                self.assertIs(n in onto(family), made.rank() == made.goal)
        self.assertEqual(onto(NEAR), Sizes([], 0, 3, [0, 1]))
        self.assertEqual(one_to_one(NEAR), onto(NEAR))
        wide = Family(TRACK, [("col", 2)], [("line", "col", "col", 2)])
        self.assertTrue(onto(wide).is_all and one_to_one(wide).is_empty)
        self.assertTrue(onto(Family([], TRACK, [])).is_all)
        self.assertEqual(one_to_one(Family([], TRACK, [])), Sizes([0], 1, 1, []))

    def test_apart(self):
        draw = random.Random(9)
        found = {}
        for _ in range(200):
            outs, ins = drawn_tracks(draw), drawn_tracks(draw)
            one, other = drawn_family(draw, outs, ins, 2), drawn_family(draw, outs, ins, 1)
            if draw.randrange(3) == 0:
                other = Family(outs, ins, draw.sample(one.rules, len(one.rules)))
            unlike = [n for n in range(12) if one.sized(n) != other.sized(n)]
            self.assertEqual(apart(one, other), unlike[0] if unlike else None)
            found[apart(one, other)] = found.get(apart(one, other), 0) + 1
        self.assertTrue(len(found) > 3 and found[None] > 20)
        self.assertEqual(apart(SWAPPED, Family(TRACK, TRACK, [])), 2)
        self.assertEqual(apart(Family(TRACK, TRACK, [("point", "col", 3, "col", 3)]), Family(TRACK, TRACK, [])), 4)

    def test_rows_that_come_round_late(self):
        # The rank has a period of 60, the sweep one of 420 sites.
        track = [("a", 0)]
        families = [Family([("a", 3)], track, [("line", "a", "a", 1), ("point", "a", 2, "a", 1), ("line", "a", "a", 0),
                                               ("line", "a", "a", 2), ("line", "a", "a", -2)]),
                    Family(track, track, [("mirror", "a", "a", -1), ("line", "a", "a", -1), ("line", "a", "a", 0),
                                          ("line", "a", "a", 1), ("line", "a", "a", -2)]),
                    Family(track, track, [("line", "a", "a", -2), ("mirror", "a", "a", -2), ("line", "a", "a", 1),
                                          ("line", "a", "a", -1), ("point", "a", 2, "a", -4)])]
        start = time.monotonic()
        size = chain_size(families)
        self.assertEqual((len(size.first), len(size.cycle)), (4, 60))
        for n in [*range(24), 64, 65, 90, 124]:
            self.assertEqual(size(n), chained_of(families, n))
        self.assertLess(time.monotonic() - start, 30)

    def test_periods_longer_than_sixty(self):
        rules = [("line", "b", "a", 2), ("line", "a", "b", 1), ("line", "b", "b", 2), ("line", "a", "a", 2),
                 ("line", "a", "b", -2), ("line", "b", "a", -1), ("line", "a", "b", -1)]
        family = Family([("a", 0), ("b", 0)], [("a", 0), ("b", 0)], rules)
        size = rank_size(family)
        self.assertEqual((size.first, len(size.cycle)), ((), 127))
        for n in [*range(30), 63, 90]:
            self.assertEqual(size(n), family.sized(n).rank())

    def test_most_families(self):
        draw = random.Random(10)
        start = time.monotonic()
        tracks = [[("a", 1), ("b", 0)], [("c", 0), ("d", 2)], [("e", 3), ("f", 0)], [("g", 0)]]
        for _ in range(4):
            families = [drawn_family(draw, outs, ins, 4) for outs, ins in zip(tracks, tracks[1:])]
            self.assertEqual([chain_size(families)(n) for n in (3, 20)], [chained_of(families, n) for n in (3, 20)])
            families = [drawn_family(draw, tracks[0], ins, 3) for ins in tracks[1:]]
            self.assertEqual([common_size(families)(n) for n in (3, 20)], [common_of(families, n) for n in (3, 20)])
        self.assertLess(time.monotonic() - start, 60)


class WrongTest(unittest.TestCase):

    def other_values(self):
        return [None, -1, 0, True, "a", (), (NEAR, NEAR), {}, STRANGE, Space(1, [1]), Size([], [0], 0), NEAR.sized(2),
                Sizes([], 0, 1, [0]), Three(Space(1, []), Space(1, []), Space(1, []))]

    def test_wrong_values(self):
        family = Place("family", NEAR, themselves([*self.other_values(), [NEAR]]))
        one, other = [Place(name, NEAR, family.wrong) for name in ("one", "other")]
        families = list_of("families", [NEAR], [None, -1, 0, True, "a", (), {}, STRANGE, Space(1, [1]), [NEAR]])
        families.wrong += themselves([[], (), NEAR])
        for function, places in [(rank_size, [family]), (one_to_one, [family]), (onto, [family]), (apart, [one, other]),
                                 (chain_size, [families]), (joined_size, [families]), (common_size, [families])]:
            check_wrong(self, function, places)
            check_names(self, function, places)

    def test_not_chained(self):
        wide = Family(TRACK, [("col", 1)], [])
        for families, index in [([NEAR, NEAR], 0), ([NEAR, SWAPPED, NEAR], 1), ([SWAPPED, wide, SWAPPED], 1),
                                ([SWAPPED, NEAR, NEAR], 0), ((SWAPPED, SWAPPED, wide, wide), 2)]:
            with self.assertRaises(NotChained) as caught:
                chain_size(families)
            self.assertEqual(caught.exception.index, index)
        with self.assertRaises(BadValue):
            chain_size([NEAR, NEAR, None])

    def test_other_tracks(self):
        wide = Family(TRACK, [("col", 1)], [])
        for function in (joined_size, common_size):
            for families in ([NEAR, SWAPPED], [SWAPPED, wide, NEAR], [NEAR, NEAR, SWAPPED]):
                with self.assertRaises(OtherTracks):
                    function(families)
            function([SWAPPED, wide])
        for one, other in [(SWAPPED, wide), (NEAR, SWAPPED), (wide, SWAPPED)]:
            with self.assertRaises(OtherTracks):
                apart(one, other)


if __name__ == "__main__":
    unittest.main()
