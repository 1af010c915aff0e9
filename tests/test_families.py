import random
import time
import unittest

from laneswap.errors import BadRule, BadValue, OtherTracks
from laneswap.families import Family
from laneswap.maps import Map
from laneswap.spaces import Space
from tests.drawing import drawn_family, drawn_tracks, images_of
from tests.wrong import STRANGE, Place, check_names, check_wrong, no_wholes, themselves, whole

INDEX = [("row", 0), ("col", 0)]


class SizedTest(unittest.TestCase):

    def test_drawn_families(self):
        draw = random.Random(1)
        for _ in range(300):
            family = drawn_family(draw, drawn_tracks(draw), drawn_tracks(draw), draw.randrange(8))
            for n in (0, 1, 2, 3, draw.randrange(4, 12)):
                made, columns = family.sized(n), images_of(family, n)
                self.assertEqual(made.goal, sum([n + extra for _, extra in family.outs]))
                self.assertEqual(made.source, sum([n + extra for _, extra in family.ins]))
                self.assertEqual(made.columns, tuple(columns))

    def columns(self, outs, ins, rules, n):
        return Family(outs, ins, rules).sized(n).columns

    def test_lines(self):
        track, wide = [("col", 0)], [("col", 2)]
        self.assertEqual([self.columns(track, track, [("line", "col", "col", shift)], 3) for shift in range(-2, 3)],
                         [(4, 0, 0), (2, 4, 0), (1, 2, 4), (0, 1, 2), (0, 0, 1)])
        self.assertEqual(self.columns(track, wide, [("line", "col", "col", 1)], 2), (0, 1, 2, 0))
        self.assertEqual(self.columns(wide, track, [("line", "col", "col", -1)], 2), (2, 4))
        self.assertEqual(self.columns(wide, track, [("line", "col", "col", -9)], 2), (0, 0))

    def test_mirrors_whatever_the_extras(self):
        track, wide = [("col", 0)], [("col", 2)]
        self.assertEqual(self.columns(track, track, [("mirror", "col", "col", 0)], 3), (4, 2, 1))
        self.assertEqual(self.columns(track, track, [("mirror", "col", "col", 1)], 3), (0, 4, 2))
        self.assertEqual(self.columns(track, track, [("mirror", "col", "col", -1)], 3), (2, 1, 0))
        self.assertEqual(self.columns(track, wide, [("mirror", "col", "col", 0)], 2), (2, 1, 0, 0))
        self.assertEqual(self.columns(wide, track, [("mirror", "col", "col", 1)], 2), (4, 2))
        self.assertEqual(self.columns(wide, wide, [("mirror", "col", "col", 2)], 2), (8, 4, 2, 1))

    def test_points_from_below_and_from_the_top(self):
        track, wide = [("col", 0)], [("col", 2)]
        for n, columns in [(0, ()), (1, (1,)), (2, (0, 1)), (3, (0, 0, 1))]:
            self.assertEqual(self.columns(track, track, [("point", "col", 0, "col", -1)], n), columns)
        for n, columns in [(0, (0, 0)), (1, (1, 0, 0)), (2, (0, 2, 0, 0)), (3, (0, 0, 4, 0, 0))]:
            self.assertEqual(self.columns(track, wide, [("point", "col", -1, "col", -3)], n), columns)
        self.assertEqual(self.columns(wide, track, [("point", "col", 3, "col", 1)], 2), (0, 8))
        self.assertEqual(self.columns(wide, track, [("point", "col", 3, "col", 1)], 1), (0,))
        self.assertEqual(self.columns(wide, track, [("point", "col", -4, "col", 0)], 1), (0,))
        self.assertEqual(self.columns(wide, track, [("point", "col", -4, "col", 0)], 2), (1, 0))

    def test_bits_of_tracks_stand_behind_one_another(self):
        outs, ins = [("a", 1), ("b", 0)], [("c", 0), ("d", 2)]
        rules = [("line", "a", "c", 0), ("line", "b", "d", 1), ("point", "a", -1, "d", -1), ("point", "b", 0, "c", 1)]
        self.assertEqual(Family(outs, ins, rules).sized(2), Map(5, [1, 10, 0, 8, 16, 4]))

    def test_equal_rules_cancel_in_pairs(self):
        rule, other = ("line", "col", "col", 0), ("mirror", "col", "col", 0)
        track = [("col", 0)]
        self.assertEqual(self.columns(track, track, [rule, other, rule], 3), (4, 2, 1))
        self.assertEqual(self.columns(track, track, [rule, rule], 3), (0, 0, 0))
        self.assertEqual(self.columns(track, track, [rule] * 3, 3), (1, 2, 4))
        self.assertEqual(self.columns(track, track, [rule, other], 3), (5, 0, 5))
        self.assertEqual(self.columns(track, track, [("point", "col", 0, "col", -1), ("point", "col", -1, "col", 0)], 1), (0,))

    def test_no_tracks_on_a_side(self):
        self.assertEqual(Family([], [], []).sized(5), Map(0, []))
        self.assertEqual(Family([], [("a", 1)], []).sized(2), Map(0, [0, 0, 0]))
        self.assertEqual(Family([("a", 3)], [], []).sized(0), Map(3, []))
        self.assertEqual(Family([("a", 0)], [("a", 0)], []).sized(0), Map(0, []))

    def test_forty(self):
        draw = random.Random(2)
        start = time.monotonic()
        for _ in range(5):
            family = drawn_family(draw, [("a", 3), ("b", 3)], [("a", 1), ("b", 2)], 20)
            self.assertEqual(family.sized(40).columns, tuple(images_of(family, 40)))
        self.assertLess(time.monotonic() - start, 20)


class FamilyTest(unittest.TestCase):

    def test_attributes_are_copies(self):
        outs, ins, rules = [["bank", 0]], [("row", 1), ["col", 0]], [("line", "bank", "row", 0)]
        family = Family(outs, ins, rules)
        outs[0][1], ins[0] = 5, ("x", 0)
        rules.append(("line", "bank", "col", 0))
        self.assertEqual((family.outs, family.ins), ((("bank", 0),), (("row", 1), ("col", 0))))
        self.assertEqual(family.rules, (("line", "bank", "row", 0),))
        self.assertEqual((outs, rules[:-1]), ([["bank", 5]], [("line", "bank", "row", 0)]))

    def test_sums_and_equality(self):
        one, two = [("line", "a", "row", 0)], [("mirror", "a", "col", 1), ("line", "a", "row", 0)]
        first, second = Family([("a", 0)], INDEX, one), Family([("a", 0)], INDEX, two)
        self.assertEqual((first + second).rules, tuple(one + two))
        self.assertTrue(first + second == Family((("a", 0),), tuple(INDEX), (*one, *two)))
        self.assertFalse(first + second == second + first)
        self.assertFalse(first == Family([("a", 0)], INDEX, one * 3))
        for n in range(4):
            self.assertEqual((first + second).sized(n), first.sized(n) + second.sized(n))
        for other in (Family([("a", 1)], INDEX, one), Family([("a", 0)], INDEX[::-1], one), Family([("b", 0)], INDEX, []),
                      Family([("a", 0), ("b", 0)], INDEX, one), Family([("a", 0)], [*INDEX, ("x", 0)], one)):
            self.assertFalse(first == other)
            for left, right in ((first, other), (other, first)):
                with self.assertRaises(OtherTracks):
                    left + right
        for other in (None, 0, one, (("a", 0),)):
            self.assertFalse(first == other)


class WrongTest(unittest.TestCase):

    def tracks_place(self, name, good):
        wrong = [None, -1, 3, True, "a", {}, STRANGE, Space(1, [1]), [good[0], good[0]], ([good[0][0], 2], *good)]
        items = [None, 0, "ab", (), ("a",), ("a", 0, 0), ("a", -1), ("a", True), ("a", None), ("a", "0"), ("A", 0), ("", 0),
                 ("abcdefghi", 0), (0, "a"), ("a1", 0), (None, 0), {}, ("a", 1.0), [["a", 0]]]
        pairs = themselves(wrong)
        for item in items:
            for values in ([item], [*good, item], (item, *good), [*good, item, None], [*good, item, good[0]]):
                pairs.append((values, item))
        return Place(name, good, pairs)

    def test_wrong_values(self):
        rules = Place("rules", [("line", "a", "col", 0)], themselves([None, -1, 0, True, "", "line", {}, STRANGE]))
        places = [self.tracks_place("outs", [("a", 0)]), self.tracks_place("ins", INDEX), rules]
        check_wrong(self, Family, places)
        check_names(self, Family, places)
        family = Family([("a", 0)], INDEX, rules.good)
        check_wrong(self, family.sized, [whole("n", 2)])
        check_names(self, family.sized, [whole("n", 2)])
        for other in (*no_wholes(), 0, INDEX, family.rules):
            with self.assertRaises(BadValue) as caught:
                family + other
            self.assertIs(caught.exception.value, other)

    def test_bad_rules(self):
        good = [("line", "a", "col", -2), ("mirror", "a", "row", 2), ("point", "a", -1, "col", 0)]
        bad = [None, 0, "line", (), ("line",), ["line", "a", "col", 0], ("line", "a", "col"), ("line", "a", "col", 0, 0),
               ("line", "b", "col", 0), ("line", "a", "a", 0), ("line", "col", "a", 0), ("line", "a", "col", True),
               ("line", "a", "col", "0"), ("line", "a", "col", None), ("Line", "a", "col", 0), (None, "a", "col", 0),
               ("mirror", "a", "b", 0), ("mirror", "a", "col", 1.0), ("mirror", "a", 0, "col", 0), ("point", "a", "col", 0),
               ("point", "a", 0, "col"), ("point", "a", 0, "col", None), ("point", "a", True, "col", 0), ("point", 0, "a", 0, "col"),
               ("point", "a", 0, "b", 0), ("point", "x", 0, "col", 0), ("point", "a", 0, "col", 0, 0), {}, STRANGE,
               ("line", ["a"], "col", 0), ("line", "a", {}, 0), ("point", "a", 0, STRANGE, 0), (STRANGE, "a", "col", 0)]
        for rule in bad:
            for rules, index in [([rule], 0), ([*good, rule], 3), ((good[0], rule, None, good[1]), 1)]:
                with self.assertRaises(BadRule) as caught:
                    Family([("a", 0)], INDEX, rules)
                self.assertEqual(caught.exception.index, index)
        self.assertEqual(Family([("a", 0)], INDEX, good).rules, tuple(good))
        with self.assertRaises(BadRule) as caught:
            Family([], [], [("line", "a", "a", 0)])
        self.assertEqual(caught.exception.index, 0)

    def test_wrong_tracks_ahead_of_bad_rules(self):
        for outs, ins, bad in [([("a", -1)], INDEX, ("a", -1)), ([("a", 0)], [None], None), ([], 7, 7)]:
            with self.assertRaises(BadValue) as caught:
                Family(outs, ins, [None])
            self.assertEqual(caught.exception.value, bad)


if __name__ == "__main__":
    unittest.main()
