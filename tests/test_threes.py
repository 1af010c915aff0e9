import random
import time
import unittest
from itertools import product

from laneswap.errors import BadValue, Filled, TooWide
from laneswap.maps import Map, unit_map
from laneswap.spaces import Space, every
from laneswap.threes import Three, best_banks, filled, free_banks, jam, least_banks
from tests.drawing import (all_spaces, all_undoable, drawn_map, drawn_space, drawn_triple, drawn_undoable,
                           kernels_of_all_maps, marked)
from tests.wrong import (Place, any_space, check_names, check_wrong, no_wholes, objects, space, themselves, told_map,
                         whole, wholes)

SETS = [(0, 1, 2), (0, 1), (0, 2), (1, 2), (0,), (1,), (2,), ()]


def meet_and_sum(spaces, chosen):
    """The meet of the chosen spaces and the sum of the others."""
    bits = spaces[0].bits
    common, others = every(bits), Space(bits, [])
    for at, each in enumerate(spaces):
        if at in chosen:
            common = common & each
        else:
            others = others + each
    return common, others


def own_words_of(three):
    """The own words of each set, in the order of SETS."""
    return [three.shared, *three.pairs, *three.alone, three.outside]


def drawn_three(draw, bits):
    """A Three of few bits, whose Spaces are often alike or fill a space."""
    spaces = [drawn_space(draw, bits) for _ in range(3)]
    kind = draw.randrange(5)
    if kind == 0:
        spaces[draw.randrange(3)] = draw.choice(spaces)
    elif kind == 1:
        spaces[2] = Space(bits, [one ^ two for one, two in zip(spaces[0].rows, spaces[1].rows)])
    elif kind == 2:
        common = [draw.randrange(2 ** bits) for _ in range(draw.randrange(3))]
        one, two = draw.randrange(2 ** bits), draw.randrange(2 ** bits)
        spaces = [Space(bits, [*common, word]) for word in (one, two, one ^ two)]
    elif kind == 3 and bits > 3:
        spaces = drawn_triple(draw, bits, (0, 0, 0, 0, 2, 0, 0, bits - 4, 0))
    return Three(*spaces)


def fills(three):
    """The words that the three Spaces have, if they are a space that is none of them; None otherwise."""
    words = sorted({word for each in three.spaces for word in each.listed()})
    made = Space(three.spaces[0].bits, words)
    return made if list(made.listed()) == words and made not in three.spaces else None


class ThreeTest(unittest.TestCase):

    def check_three(self, three):
        bits = three.spaces[0].bits
        basis = [word for words in own_words_of(three) for word in words]
        self.assertIsInstance(three.pairs + three.alone + three.planes, tuple)
        for chosen, words in zip(SETS, own_words_of(three)):
            self.assertIsInstance(words, tuple)
            common, others = meet_and_sum(three.spaces, chosen)
            self.assertEqual(len(words), common.dimension - (common & others).dimension)
            self.assertEqual(Space(bits, words) + (common & others), common)
        planes = [word for plane in three.planes for word in plane]
        self.assertEqual(len(basis + planes), bits)
        self.assertEqual(Space(bits, basis + planes), every(bits))
        for at, each in enumerate(three.spaces):
            held = [(one, two, one ^ two)[at] for one, two in three.planes]
            for chosen, words in zip(SETS, own_words_of(three)):
                if at in chosen:
                    held += words
            self.assertEqual(len(held), each.dimension)
            self.assertEqual(Space(bits, held), each)
        numbers = [len(words) for words in own_words_of(three)]
        self.assertEqual(three.numbers(), (*numbers[:4], len(three.planes), *numbers[4:]))

    def test_own_words_and_planes(self):
        draw = random.Random(1)
        many = {}
        for bits in (0, 1, 2, 3, 4, 5, 6):
            for _ in range(60):
                three = drawn_three(draw, bits)
                self.check_three(three)
                many[len(three.planes)] = many.get(len(three.planes), 0) + 1
        self.assertGreater(min(many[0], many[1], many[2]), 10)

    def test_all_triples_of_two_bits(self):
        spaces = all_spaces(2)
        self.assertEqual(len(spaces), 5)
        for triple in product(spaces, repeat=3):
            self.check_three(Three(*triple))

    def test_told_numbers(self):
        draw = random.Random(2)
        for numbers in product(range(2), repeat=9):
            bits = sum(numbers) + numbers[4]
            three = Three(*drawn_triple(draw, bits, numbers))
            self.assertEqual(three.numbers(), numbers)
        for numbers in [(0,) * 9, (2, 0, 0, 3, 1, 0, 2, 0, 1), (0, 0, 0, 0, 3, 0, 0, 0, 0), (1, 1, 2, 0, 2, 3, 0, 0, 2)]:
            bits = sum(numbers) + numbers[4]
            three = Three(*drawn_triple(draw, bits, numbers))
            self.check_three(three)
            self.assertEqual(three.numbers(), numbers)

    def test_edges(self):
        nothing, all_words = Space(3, []), every(3)
        told = [((nothing, nothing, nothing), (0, 0, 0, 0, 0, 0, 0, 0, 3)),
                ((all_words, all_words, all_words), (3, 0, 0, 0, 0, 0, 0, 0, 0)),
                ((all_words, nothing, all_words), (0, 0, 3, 0, 0, 0, 0, 0, 0)),
                ((nothing, nothing, all_words), (0, 0, 0, 0, 0, 0, 0, 3, 0)),
                ((Space(3, [1]), Space(3, [1]), Space(3, [1])), (1, 0, 0, 0, 0, 0, 0, 0, 2)),
                ((Space(3, [1, 4]), Space(3, [2, 4]), Space(3, [3, 4])), (1, 0, 0, 0, 1, 0, 0, 0, 0))]
        for spaces, numbers in told:
            three = Three(*spaces)
            self.assertEqual((three.numbers(), three.spaces), (numbers, spaces))
            self.check_three(three)
        self.assertEqual(Three(every(0), every(0), every(0)).numbers(), (0,) * 9)

    def test_leading(self):
        draw = random.Random(3)
        maps = {bits: all_undoable(bits) for bits in (0, 1, 2, 3)}
        found = {True: 0, False: 0}
        for _ in range(400):
            bits = draw.randrange(4)
            one = drawn_three(draw, bits)
            change = drawn_undoable(draw, bits)
            other = draw.choice([drawn_three(draw, bits), Three(*[change.moved(each) for each in one.spaces])])
            exists = any([all([each.moved(space) == goal for space, goal in zip(one.spaces, other.spaces)])
                          for each in maps[bits]])
            self.check_leading(one, other, exists)
            found[exists] += 1
        self.assertGreater(min(found.values()), 50)

    def check_leading(self, one, other, exists):
        made = one.leading(other)
        self.assertEqual(made is not None, exists)
        if made is not None:
            self.assertEqual((made.rank(), made.goal, made.source), (one.spaces[0].bits,) * 3)
            self.assertEqual(tuple([made.moved(each) for each in one.spaces]), other.spaces)

    def test_hundred_bits(self):
        draw = random.Random(4)
        start = time.monotonic()
        for numbers in [(5, 6, 7, 8, 20, 3, 4, 12, 15), (10, 0, 0, 0, 41, 1, 0, 0, 7), (30, 10, 10, 10, 0, 10, 10, 10, 10)]:
            one, other = Three(*drawn_triple(draw, 100, numbers)), Three(*drawn_triple(draw, 100, numbers))
            self.assertEqual(one.numbers(), numbers)
            self.check_three(one)
            self.check_leading(one, other, True)
            self.check_leading(one, Three(other.spaces[1], other.spaces[0], other.spaces[2]), numbers[5] == numbers[6])
        for _ in range(5):
            dims = [draw.randrange(101) for _ in range(3)]
            self.check_three(Three(*[Space(100, [draw.getrandbits(100) for _ in range(many)]) for many in dims]))
        self.assertLess(time.monotonic() - start, 30)


class BanksTest(unittest.TestCase):

    def test_jam_by_counting(self):
        draw = random.Random(5)
        for _ in range(200):
            bits = draw.randrange(5)
            access, bank_map = drawn_space(draw, bits), drawn_map(draw, draw.randrange(4), bits)
            word = draw.randrange(2 ** bits)
            asked = {}
            for entry in access.listed(word):
                asked[bank_map(entry)] = asked.get(bank_map(entry), 0) + 1
            self.assertEqual({2 ** jam(access, bank_map)}, set(asked.values()))

    def test_filled_by_counting(self):
        draw = random.Random(6)
        found = {True: 0, False: 0}
        threes = [Three(*triple) for triple in product(all_spaces(2), repeat=3)]
        for three in threes + [drawn_three(draw, draw.randrange(5)) for _ in range(300)]:
            expected = fills(three)
            self.assertEqual(filled(three), expected)
            found[expected is None] += 1
        self.assertGreater(min(found.values()), 15)

    def check_banks(self, three, banks, costs, weights):
        """Compares with the jams of all bank maps of so many bits."""
        free = (0, 0, 0) in costs
        widths = [each.dimension for each in three.spaces]
        if max(widths) > banks:
            with self.assertRaises(TooWide) as caught:
                free_banks(three, banks)
            self.assertEqual(caught.exception.index, [width > banks for width in widths].index(True))
            self.assertFalse(free)
        elif free:
            self.check_free(three, banks)
        else:
            with self.assertRaises(Filled) as caught:
                free_banks(three, banks)
            self.assertEqual(caught.exception.rows, fills(three).rows)
            self.assertEqual(fills(three).dimension, banks + 1)
        least = min([sum([weight * 2 ** each for weight, each in zip(weights, jams)]) for jams in costs])
        self.check_best(three, banks, weights, least)
        return free

    def check_free(self, three, banks):
        made = free_banks(three, banks)
        self.assertEqual((made.source, made.goal), (three.spaces[0].bits, banks))
        self.assertEqual([jam(each, made) for each in three.spaces], [0, 0, 0])

    def check_best(self, three, banks, weights, least):
        told = best_banks(three, banks, weights)
        self.assertIsInstance(told, tuple)
        cost, made = told
        self.assertEqual((made.source, made.goal), (three.spaces[0].bits, banks))
        self.assertEqual(sum([weight * 2 ** jam(each, made) for weight, each in zip(weights, three.spaces)]), cost)
        self.assertEqual(cost, least)

    def test_all_bank_maps(self):
        draw = random.Random(7)
        weighing = [(1, 1, 1), (5, 2, 3), (0, 0, 0), (0, 1, 1), (4, 4, 0), (1, 7, 7), (3, 2, 2)]
        found = {True: 0, False: 0}
        for bits, most in ((0, 2), (1, 3), (2, 3), (3, 3), (4, 3)):
            threes = [drawn_three(draw, bits) for _ in range(60)]
            if bits == 2:
                threes = [Three(*triple) for triple in product(all_spaces(2), repeat=3)]
            for banks in range(most + 1):
                kernels = kernels_of_all_maps(bits, banks)
                for three in threes:
                    asked = [marked(each) for each in three.spaces]
                    costs = {tuple([(kernel & words).bit_count().bit_length() - 1 for words in asked]) for kernel in kernels}
                    free = self.check_banks(three, banks, costs, draw.choice(weighing))
                    self.assertEqual(free, least_banks(three) <= banks)
                    found[free] += 1
        self.assertGreater(min(found.values()), 100)

    def test_planes_one_two_and_an_odd_number(self):
        draw = random.Random(8)
        for planes in range(8):
            for shared in range(3):
                for other in [(0,) * 6, (1, 0, 0, 0, 0, 0), (0, 0, 0, 0, 1, 0), (1, 1, 1, 1, 1, 1)]:
                    numbers = (shared, *other[:3], planes, *other[3:], 1)
                    three = Three(*drawn_triple(draw, sum(numbers) + planes, numbers))
                    widest = max([each.dimension for each in three.spaces])
                    least = widest + 1 if planes == 1 and not any(other) else widest
                    self.assertEqual(least_banks(three), least)
                    for banks in (least, least + 1, least + 5):
                        self.check_free(three, banks)
                    if least > widest:
                        self.check_filled(three, shared)

    def check_filled(self, three, shared):
        """Three lines of a plane beside shared words."""
        area = filled(three)
        self.assertEqual(area.dimension, shared + 2)
        with self.assertRaises(Filled) as caught:
            free_banks(three, shared + 1)
        self.assertEqual(caught.exception.rows, area.rows)
        with self.assertRaises(TooWide) as caught:
            free_banks(three, shared)
        self.assertEqual(caught.exception.index, 0)
        for weights in [(1, 1, 1), (5, 2, 3), (2, 5, 3), (3, 5, 2), (0, 4, 4), (9, 9, 1)]:
            self.check_best(three, shared + 1, weights, sum(weights) + min(weights))
            self.check_best(three, shared + 2, weights, sum(weights))
            self.check_best(three, shared, weights, 2 * sum(weights))

    def test_spaces_that_nearly_fill(self):
        for spaces in [([1, 4], [2, 4], [3]), ([1], [2], [2]), ([1], [2], []), ([1, 2], [1, 2], [3]), ([1], [2], [4]),
                       ([1, 2], [4, 8], [5, 10]), ([1, 4], [2, 4], [3, 8])]:
            three = Three(*[Space(4, words) for words in spaces])
            self.assertIsNone(filled(three))
            widest = max([each.dimension for each in three.spaces])
            self.assertEqual(least_banks(three), widest)
            self.check_free(three, widest)

    def test_weights_left_out(self):
        lines = Three(Space(2, [1]), Space(2, [2]), Space(2, [3]))
        self.assertEqual([best_banks(lines, banks)[0] for banks in (0, 1, 2)], [6, 4, 3])
        self.assertEqual(best_banks(lines, 1, (10 ** 30, 1, 10 ** 30))[0], 2 * 10 ** 30 + 2)
        self.assertEqual(best_banks(three=lines, banks=1, weights=[2, 3, 4])[0], 11)

    def test_hundred_bits(self):
        draw = random.Random(9)
        start = time.monotonic()
        for numbers in [(5, 6, 7, 8, 20, 3, 4, 12, 15), (20, 0, 0, 0, 35, 0, 0, 0, 10), (30, 10, 10, 10, 0, 10, 10, 10, 10),
                        (60, 0, 0, 0, 1, 0, 0, 0, 38)]:
            three = Three(*drawn_triple(draw, 100, numbers))
            least = least_banks(three)
            for banks in (least, 100):
                self.check_free(three, banks)
            for banks in (0, 1, least // 2, least - 1, least, 100):
                jams = [max(0, each.dimension - banks) for each in three.spaces]
                cost = sum([weight * 2 ** each for weight, each in zip((3, 2, 4), jams)])
                area = filled(three)
                if area is not None and area.dimension == banks + 1:
                    cost += 2
                self.check_best(three, banks, (3, 2, 4), cost)
        self.assertLess(time.monotonic() - start, 30)


class WrongTest(unittest.TestCase):

    def three_place(self, name, good):
        others = [value for value in objects() if not isinstance(value, Three)]
        return Place(name, good, themselves(others + [good.spaces, list(good.spaces), every(2)]))

    def test_wrong_values(self):
        lines = Three(Space(2, [1]), Space(2, [2]), Space(2, [3]))
        weights = wholes("weights", [1, 2, 3])
        weights.wrong += themselves([[], (1, 1), [1, 1, 1, 1], ()])
        three, banks = self.three_place("three", lines), whole("banks", 2)
        other = self.three_place("other", Three(every(2), every(2), every(2)))
        other.wrong += themselves([Three(every(1), every(1), every(1)), Three(every(3), every(3), every(3))])
        calls = [(Three, [any_space("one", every(2)), space("two", Space(2, [1])), space("three", Space(2, []))]),
                 (jam, [any_space("access", Space(2, [3])), told_map("bank_map", unit_map(2), [unit_map(3), Map(2, [1])])]),
                 (filled, [three]), (least_banks, [three]), (free_banks, [three, banks]),
                 (best_banks, [three, banks, weights]), (lines.leading, [other])]
        for function, places in calls:
            check_wrong(self, function, places)
            check_names(self, function, places)

    def test_wrong_values_ahead_of_too_wide(self):
        wide = Three(every(2), every(2), every(2))
        check_wrong(self, free_banks, [self.three_place("three", wide), Place("banks", 1, themselves(no_wholes()))])
        with self.assertRaises(TooWide):
            free_banks(wide, 1)
        for bad in ([1, None, 1], [1, 1], [1, 1, -1, 2]):
            with self.assertRaises(BadValue) as caught:
                best_banks(wide, 0, bad)
            self.assertIn(caught.exception.value, [*bad, bad])

    def test_too_wide_tells_the_first(self):
        for spaces, index in [((1, 2, 2), 1), ((0, 1, 2), 2), ((2, 0, 2), 0), ((1, 1, 2), 2)]:
            three = Three(*[Space(2, [1, 2][:many]) for many in spaces])
            with self.assertRaises(TooWide) as caught:
                free_banks(three, 1)
            self.assertEqual(caught.exception.index, index)

    def test_arguments_stay_as_they_are(self):
        weights = [3, 2, 1]
        best_banks(Three(Space(2, [1]), Space(2, [2]), Space(2, [3])), 1, weights)
        self.assertEqual(weights, [3, 2, 1])


if __name__ == "__main__":
    unittest.main()
