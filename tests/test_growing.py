import random
import time
import unittest

from laneswap.costs import Cost
from laneswap.errors import BadValue, Filled, NotChained, NotOntoAt, OtherTracks, TooWide
from laneswap.families import Family
from laneswap.growing import Growing, free_for_three, growing_hops, growing_rounds, meeting_size
from laneswap.hops import fewest_hops
from laneswap.rounds import fewest_rounds
from laneswap.sizes import Size, Sizes
from laneswap.spaces import Space
from laneswap.spreads import Spread
from laneswap.threes import Three, free_banks, jam
from tests.drawing import drawn_family, drawn_tracks
from tests.wrong import STRANGE, Place, check_names, check_wrong, no_wholes, themselves, whole

INDEX = [("row", 0), ("col", 0)]
LANE = [("lane", 0)]
SLOT = [("slot", 0)]
LINE = Size([], [0], 1)


def lines(outs, ins, *pairs):
    """A Family in which bits of out tracks get the bits with their numbers of in tracks."""
    return Family(outs, ins, [("line", out, source, 0) for out, source in pairs])


ROW = lines(INDEX, LANE, ("col", "lane"))
COLUMN = lines(INDEX, LANE, ("row", "lane"))
SLANT = ROW + COLUMN
TALL = Growing(lines(INDEX, SLOT, ("row", "slot")), ROW)
WIDE = Growing(lines(INDEX, SLOT, ("col", "slot")), COLUMN)


def drawn_growing(draw, index=(("row", 0), ("col", 0)), lanes=None):
    """A growing spread that is onto because slots and lanes share the index bits; often with copies and mixed words."""
    lanes = lanes or [("lane", draw.choice((0, 0, 1)))]
    index, slots = list(index), [("slot", draw.choice((0, 0, 2))), ("more", draw.choice((0, 1)))]
    while True:
        first = draw.choice(index)[0]
        last = [name for name, _ in index if name != first]
        basis = [(draw.choice(("line", "line", "mirror")), first, "slot", 0)]
        basis += [(draw.choice(("line", "mirror")), name, draw.choice(("lane", "lane", "more")), 0) for name in last]
        more = drawn_family(draw, index, slots, draw.randrange(4)).rules
        beside = drawn_family(draw, index, lanes, draw.randrange(3)).rules
        try:
            return Growing(Family(index, slots, [rule for rule in basis if "lane" not in rule] + list(more)),
                           Family(index, lanes, [rule for rule in basis if "lane" in rule] + list(beside)))
        except NotOntoAt:
            continue


class GrowingTest(unittest.TestCase):

    def test_sized_and_copies(self):
        draw = random.Random(1)
        for _ in range(30):
            made = drawn_growing(draw)
            copies = made.copies()
            for n in range(9):
                spread = made.sized(n)
                self.assertEqual(spread, Spread(2 * n, made.slots.sized(n).columns, made.lanes.sized(n).columns))
                self.assertEqual(copies(n), spread.copies().dimension)
        self.assertEqual((TALL.slots.ins, TALL.lanes), ((("slot", 0),), ROW))
        self.assertEqual(TALL.sized(2), Spread(4, [1, 2], [4, 8]))

    def test_not_onto(self):
        draw = random.Random(2)
        found = {}
        for _ in range(250):
            index = drawn_tracks(draw)
            slots = drawn_family(draw, index, drawn_tracks(draw), draw.randrange(4))
            lanes = drawn_family(draw, index, drawn_tracks(draw), draw.randrange(4))
            if draw.randrange(2):
                index = index[:1]
                slots = Family(index, [("x", 3)], [("line", name, "x", draw.randrange(4)) for name, _ in index])
                lanes = drawn_family(draw, index, drawn_tracks(draw), 3)
            missing = [n for n in range(16) if slots.sized(n).beside(lanes.sized(n)).rank() < sum([n + k for _, k in index])]
            at = None
            try:
                self.assertEqual(Growing(slots, lanes).sized(3).bits, sum([3 + k for _, k in index]))
            except NotOntoAt as error:
                at = error.size
            self.assertEqual(at, missing[0] if missing else None)
            found[at] = found.get(at, 0) + 1
        self.assertGreater(min(found[None], found[0], found[1]), 10)
        self.assertGreater(len(found), 3)

    def test_onto_at_some_sizes_only(self):
        near = Family([("a", 0)], [("b", 0)], [("line", "a", "b", shift) for shift in (-1, 0, 1)])
        none = Family([("a", 0)], [], [])
        wide = Family([("a", 0)], [("b", 0)], [("point", "a", place, "b", place) for place in range(4)])
        for slots, lanes, size in [(near, none, 2), (none, none, 1), (none, near, 2), (wide, none, 5),
                                   (Family([("a", 3)], [], []), Family([("a", 3)], [], []), 0)]:
            with self.assertRaises(NotOntoAt) as caught:
                Growing(slots, lanes)
            self.assertEqual(caught.exception.size, size)
        self.assertEqual(Growing(Family([], [], []), Family([], LANE, [])).copies(), LINE)

    def test_no_slots(self):
        made = Growing(Family(LANE, [], []), lines(LANE, LANE, ("lane", "lane")))
        self.assertEqual((made.sized(3), made.copies()), (Spread(3, [], [1, 2, 4]), Size([], [0], 0)))
        self.assertEqual(growing_hops(made, made), Size([], [0], 0))
        self.assertTrue(growing_rounds(made, made) == Cost([]))


class AccessesTest(unittest.TestCase):

    def test_meetings(self):
        draw = random.Random(3)
        for _ in range(60):
            index = drawn_tracks(draw)
            access = drawn_family(draw, index, drawn_tracks(draw), draw.randrange(5))
            banks = drawn_family(draw, drawn_tracks(draw), index, draw.randrange(5))
            size = meeting_size(access, banks)
            for n in range(14):
                self.assertEqual(size(n), jam(access.sized(n).image(), banks.sized(n)))

    def drawn_three(self, draw):
        """Three accesses, often such that they fill a space at some sizes."""
        ins = [("lane", draw.choice((0, 1)))]
        one, two = [drawn_family(draw, INDEX, ins, draw.randrange(1, 4)) for _ in range(2)]
        if draw.randrange(3):
            point = [("point", "row", draw.choice((0, -1)), "lane", 0), ("point", "col", draw.choice((0, 2)), "lane", 0)]
            common = [draw.choice([("line", "row", "lane", 1), ("mirror", "col", "lane", -1), ("line", "col", "lane", 1)])]
            one, two = Family(INDEX, ins, point[:1] + common), Family(INDEX, ins, point[1:] + common)
            return one, two, Family(INDEX, ins, point + common)
        return one, two, draw.choice([one, two, one + two])

    def test_free_for_three(self):
        draw = random.Random(4)
        found = {}
        for _ in range(60):
            accesses = self.drawn_three(draw)
            for bits in (LINE, Size([], [draw.randrange(4)], 0), LINE.greater(2) - 1, LINE + 1, Size([3, 0], [0, 5, 1], 3)):
                free = free_for_three(*accesses, bits)
                self.assertIsInstance(free, Sizes)
                for n in range(9):
                    reason = self.reason([access.sized(n).image() for access in accesses], bits(n))
                    self.assertIs(n in free, reason is None, (accesses[0].rules, accesses[1].rules, n))
                    found[reason] = found.get(reason, 0) + 1
        self.assertGreater(min(found[None], found[TooWide], found[Filled]), 40)

    def reason(self, spaces, banks):
        """Which error tells that there is no bank map, None if there is one."""
        try:
            free_banks(Three(*spaces), banks)
        except (TooWide, Filled) as error:
            return type(error)
        return None

    def test_told_accesses(self):
        free = free_for_three(ROW, COLUMN, SLANT, LINE)
        self.assertEqual((free.few, free.start, free.period, free.rests), ((0,), 2, 1, (0,)))
        self.assertTrue(free_for_three(ROW, COLUMN, SLANT, LINE + 1).is_all)
        self.assertEqual(free_for_three(ROW, COLUMN, SLANT, Size([], [1], 0)), Sizes([0], 1, 1, []))
        self.assertTrue(free_for_three(ROW, ROW, COLUMN, LINE).is_all)
        self.assertEqual(free_for_three(ROW, COLUMN, SLANT, Size([], [0, 2], 2)), Sizes([0, 1], 2, 2, [0, 1]) & Sizes([], 0, 2, [0, 1]))
        self.assertEqual(meeting_size(SLANT, Family([("bank", 0)], INDEX, [])), LINE)

    def test_bits_below_0(self):
        for bits in (LINE - 1, Size([-1], [0], 0), Size([], [4], -1), Size([], [0, -1], 2)):
            with self.assertRaises(BadValue) as caught:
                free_for_three(ROW, COLUMN, SLANT, bits)
            self.assertIs(caught.exception.value, bits)


class ChangesTest(unittest.TestCase):

    def test_against_spreads_of_each_size(self):
        draw = random.Random(5)
        kinds = {}
        for _ in range(60):
            one = drawn_growing(draw)
            other = drawn_growing(draw, one.slots.outs, list(one.lanes.ins))
            if draw.randrange(4) == 0:
                other = one
            rounds, hops = growing_rounds(one, other), growing_hops(one, other)
            self.assertIsInstance(rounds, Cost)
            self.assertIsInstance(hops, Size)
            for n in [*range(9), 14]:
                first, last = one.sized(n), other.sized(n)
                self.assertEqual(rounds(n), fewest_rounds(first, last))
                self.assertEqual(hops(n), fewest_hops(first, last))
            kinds[hops == Size([], [0], 0)] = kinds.get(hops == Size([], [0], 0), 0) + 1
        self.assertGreater(min(kinds.values()), 5)

    def test_unlike_slots(self):
        most = Growing(lines(INDEX, [("a", 0), ("b", 0)], ("row", "a"), ("col", "b")), COLUMN)
        none = Growing(lines(INDEX, SLOT, ("row", "slot")), COLUMN + ROW)
        for one in (TALL, WIDE, most, none):
            for other in (TALL, WIDE, most, none):
                for n in range(7):
                    self.assertEqual(growing_rounds(one, other)(n), fewest_rounds(one.sized(n), other.sized(n)))
                    self.assertEqual(growing_hops(one, other)(n), fewest_hops(one.sized(n), other.sized(n)))
        self.assertTrue(growing_rounds(most, TALL) == Cost([]))
        self.assertTrue(growing_rounds(TALL, WIDE) == Cost([(1, LINE, Sizes([], 0, 1, [0])), (-1, Size([], [0], 0), Sizes([], 0, 1, [0]))]))

    def test_other_tracks(self):
        wider = [("lane", 1)]
        lanes = Growing(lines(INDEX, SLOT, ("row", "slot")), lines(INDEX, wider, ("col", "lane")))
        turned = INDEX[::-1]
        index = Growing(lines(turned, SLOT, ("row", "slot")), lines(turned, LANE, ("col", "lane")))
        for function in (growing_rounds, growing_hops):
            for other in (lanes, index):
                for one, two in ((TALL, other), (other, TALL)):
                    with self.assertRaises(OtherTracks):
                        function(one, two)
        with self.assertRaises(OtherTracks):
            Growing(lines(INDEX, SLOT, ("row", "slot")), lines(turned, LANE, ("col", "lane")))
        with self.assertRaises(OtherTracks):
            free_for_three(ROW, COLUMN, lines(turned, LANE, ("row", "lane")), LINE)
        for banks in (Family(INDEX, turned, []), ROW, Family([], LANE, [])):
            with self.assertRaises(NotChained) as caught:
                meeting_size(ROW, banks)
            self.assertEqual(caught.exception.index, 0)

    def test_most_rules_end_soon(self):
        draw = random.Random(6)
        start = time.monotonic()
        index = [("row", 1), ("col", 2)]
        accesses = [drawn_family(draw, index, [("a", 1), ("b", 3)], 6) for _ in range(3)]
        free = free_for_three(*accesses, LINE + 3)
        for n in range(5):
            self.assertIs(n in free, AccessesTest.reason(self, [each.sized(n).image() for each in accesses], n + 3) is None)
        self.assertLess(time.monotonic() - start, 60)


class WrongTest(unittest.TestCase):

    def values(self):
        return [None, -1, 0, True, "a", (), [], {}, STRANGE, Space(1, [1]), Sizes([], 0, 1, [0]), ROW.sized(2),
                Three(Space(1, []), Space(1, []), Space(1, []))]

    def test_wrong_values(self):
        families = {name: Place(name, good, themselves([*self.values(), TALL, LINE]))
                    for name, good in [("slots", TALL.slots), ("lanes", ROW), ("one", ROW), ("two", COLUMN), ("three", SLANT),
                                       ("access", ROW), ("banks", Family([("bank", 0)], INDEX, []))]}
        bits = Place("bits", LINE, themselves([*self.values(), 1, ROW, LINE - 1, Size([], [3], -1), Size([2, -2], [0], 1)]))
        growing = [Place(name, TALL, themselves([*self.values(), ROW, LINE, TALL.sized(2)])) for name in ("one", "other")]
        calls = [(Growing, [families["slots"], families["lanes"]]), (meeting_size, [families["access"], families["banks"]]),
                 (free_for_three, [families["one"], families["two"], families["three"], bits]),
                 (growing_rounds, growing), (growing_hops, growing), (TALL.sized, [whole("n", 3)])]
        for function, places in calls:
            check_wrong(self, function, places)
            check_names(self, function, places)

    def test_wrong_values_ahead_of_other_errors(self):
        turned = lines(INDEX[::-1], LANE, ("row", "lane"))
        for call, bad in [(lambda: free_for_three(ROW, turned, SLANT, None), None),
                          (lambda: Growing(TALL.slots, 7), 7), (lambda: free_for_three(ROW, turned, "x", LINE - 1), "x")]:
            with self.assertRaises(BadValue) as caught:
                call()
            self.assertEqual(caught.exception.value, bad)
        for wrong in no_wholes():
            with self.assertRaises(BadValue):
                TALL.sized(wrong)


if __name__ == "__main__":
    unittest.main()
