import random
import time
import unittest

from laneswap.errors import TooLarge, Unequal
from laneswap.maps import Map
from laneswap.spaces import Space, every, shared_complement
from tests.wrong import any_space, check_names, check_wrong, space, whole, word, words


def sums(rows):
    """The set of all sums of some of the words."""
    found = {0}
    for row in rows:
        found |= {row ^ each for each in found}
    return found


def drawn_words(draw, bits):
    return [draw.getrandbits(bits) if bits else 0 for _ in range(draw.randrange(bits + 3))]


def drawn_pairs(seed, many):
    """Pairs of Spaces of up to 5 bits, with the words that were drawn for them."""
    draw = random.Random(seed)
    for _ in range(many):
        bits = draw.randrange(6)
        yield bits, drawn_words(draw, bits), drawn_words(draw, bits)


class SpaceTest(unittest.TestCase):

    def test_rows(self):
        for bits, drawn, _ in drawn_pairs(1, 400):
            made = Space(bits, drawn)
            self.assertEqual(made.bits, bits)
            self.assertIsInstance(made.rows, tuple)
            self.assertEqual(list(made.rows), sorted(made.rows))
            self.assertEqual(sums(made.rows), sums(drawn))
            self.assertEqual(2 ** made.dimension, len(sums(drawn)))
            self.assertEqual(len(made.rows), made.dimension)
            for row in made.rows:
                top = row.bit_length() - 1
                self.assertEqual([other for other in made.rows if other >> top & 1], [row])

    def test_no_words_zero_and_doubles(self):
        for bits in (0, 1, 100):
            for drawn in ([], [0], [0, 0], ()):
                made = Space(bits, drawn)
                self.assertEqual((made.rows, made.dimension, made.listed()), ((), 0, (0,)))
                self.assertIn(0, made)
        self.assertEqual(Space(3, [5, 0, 5, 5]).rows, (5,))
        self.assertEqual(Space(0, []).complement(), Space(0, []))
        self.assertEqual(Space(0, [0]), every(0))

    def test_contains_and_least(self):
        for bits, drawn, _ in drawn_pairs(2, 200):
            made = Space(bits, drawn)
            inside = sums(drawn)
            for each in range(2 ** bits):
                self.assertIs(each in made, each in inside)
                self.assertEqual(made.least(each), min([each ^ other for other in inside]))

    def test_listed(self):
        for bits, drawn, _ in drawn_pairs(3, 200):
            made = Space(bits, drawn)
            self.assertEqual(made.listed(), tuple(sorted(sums(drawn))))
            for each in range(2 ** bits):
                coset = tuple(sorted([each ^ other for other in sums(drawn)]))
                self.assertEqual(made.listed(each), coset)
                self.assertEqual(made.listed(word=each), coset)

    def test_listed_dimension_12_and_13(self):
        draw = random.Random(4)
        twelve = Space(100, [(1 << bit) + (draw.getrandbits(40) << 60) for bit in range(12)])
        self.assertEqual(twelve.dimension, 12)
        listed = twelve.listed(77)
        self.assertEqual(len(listed), 4096)
        self.assertEqual(list(listed), sorted(set(listed)))
        self.assertTrue(all([each ^ 77 in twelve for each in listed]))
        thirteen = twelve + Space(100, [1 << 50])
        for large, dimension in ((thirteen, 13), (every(13), 13), (every(100), 100)):
            with self.assertRaises(TooLarge) as caught:
                large.listed(3)
            self.assertEqual(caught.exception.dimension, dimension)

    def test_meet_sum_inside(self):
        for bits, drawn, further in drawn_pairs(5, 400):
            one, other = Space(bits, drawn), Space(bits, further)
            meet, both = one & other, one + other
            self.assertEqual(sums(meet.rows), sums(drawn) & sums(further))
            self.assertEqual(meet, Space(bits, sorted(sums(drawn) & sums(further))))
            self.assertEqual(sums(both.rows), sums(drawn + further))
            self.assertEqual((meet.bits, both.bits), (bits, bits))
            self.assertEqual(meet.dimension + both.dimension, one.dimension + other.dimension)
            self.assertIs(one.inside(other), sums(drawn) <= sums(further))
            self.assertIs(meet.inside(one) and one.inside(both), True)

    def test_completing(self):
        for bits, drawn, further in drawn_pairs(6, 400):
            one, other = Space(bits, drawn), Space(bits, further)
            expected = []
            for at, row in enumerate(other.rows):
                if row not in sums(one.rows + other.rows[:at]):
                    expected.append(row)
            self.assertEqual(one.completing(other), tuple(expected))

    def test_complement(self):
        for bits, drawn, _ in drawn_pairs(7, 200):
            made = Space(bits, drawn)
            tops = [row.bit_length() - 1 for row in made.rows]
            self.assertEqual(made.complement().rows, tuple([2 ** bit for bit in range(bits) if bit not in tops]))
            self.assertEqual((made & made.complement()).dimension, 0)
            self.assertEqual(made + made.complement(), every(bits))

    def test_every(self):
        self.assertEqual(every(0).rows, ())
        self.assertEqual(every(4).rows, (1, 2, 4, 8))
        self.assertEqual(every(bits=100).dimension, 100)
        self.assertIn((1 << 100) - 1, every(100))

    def test_shared_complement(self):
        for bits, drawn, further in drawn_pairs(8, 800):
            one, other = Space(bits, drawn), Space(bits, further)
            if one.dimension == other.dimension:
                self.check_shared(one, other)
            else:
                with self.assertRaises(Unequal) as caught:
                    shared_complement(one, other)
                self.assertEqual(caught.exception.one, one.dimension)
                self.assertEqual(caught.exception.other, other.dimension)

    def check_shared(self, one, other):
        shared = shared_complement(one, other)
        self.assertEqual(shared.bits, one.bits)
        for each in (one, other):
            self.assertEqual((each & shared).dimension, 0)
            self.assertEqual(each + shared, every(one.bits))

    def test_shared_complement_of_one_space_and_of_itself(self):
        self.check_shared(every(3), every(3))
        self.check_shared(Space(3, []), Space(3, []))
        self.check_shared(Space(3, [5]), Space(3, [5]))
        self.check_shared(Space(0, []), Space(0, []))

    def test_a_hundred_bits(self):
        draw = random.Random(9)
        start = time.monotonic()
        for dimension in (0, 1, 13, 50, 99, 100):
            base = [draw.getrandbits(100) for _ in range(dimension)]
            one = Space(100, base + [0] + base)
            other = Space(100, [draw.getrandbits(100) for _ in range(one.dimension)] + [1])
            each = draw.getrandbits(100)
            self.assertEqual((one & other).dimension + (one + other).dimension, one.dimension + other.dimension)
            self.assertIn(each ^ one.least(each), one)
            self.assertIn(sum(base[:1]), one)
            self.assertEqual(one + one.complement(), every(100))
            self.assertEqual(len(one.completing(other)), other.dimension - (one & other).dimension)
            if one.dimension == other.dimension:
                self.check_shared(one, other)
        long = Space(100, [draw.getrandbits(100) for _ in range(200)])
        self.assertEqual(long, every(100))
        self.check_shared(Space(100, [draw.getrandbits(100) for _ in range(50)]),
                          Space(100, [draw.getrandbits(100) for _ in range(50)]))
        self.assertLess(time.monotonic() - start, 20)

    def test_equality(self):
        self.assertEqual(Space(4, [6, 5]), Space(4, [3, 5, 6, 0]))
        self.assertFalse(Space(4, [6, 5]) != Space(4, [3, 5]))
        self.assertNotEqual(Space(4, [1]), Space(5, [1]))
        self.assertNotEqual(Space(4, [1]), Space(4, [2]))
        for other in (None, 0, True, (1,), [1], "a", Map(4, [1]), object()):
            self.assertFalse(Space(4, [1]) == other)
            self.assertTrue(Space(4, [1]) != other)

    def test_not_iterated_over(self):
        with self.assertRaises(TypeError):
            list(Space(2, [1]))

    def test_lists_are_copied(self):
        drawn = [6, 5, 3]
        made = Space(4, drawn)
        self.assertEqual(drawn, [6, 5, 3])
        drawn[0] = 8
        drawn.append(1)
        self.assertEqual(made, Space(4, (6, 5, 3)))
        self.assertEqual(made.rows, (3, 5))

    def test_operators_leave_their_operands(self):
        one, other = Space(4, [6, 5, 3]), Space(4, [8, 1, 6])
        results = (one & other, one + other, one.completing(other), shared_complement(one, Space(4, [1, 2])))
        self.assertEqual((one, other), (Space(4, [6, 5, 3]), Space(4, [8, 1, 6])))
        again = (one & other, one + other, one.completing(other), shared_complement(one, Space(4, [1, 2])))
        self.assertEqual(results, again)


class WrongTest(unittest.TestCase):

    def test_wrong_values(self):
        made = Space(4, [6, 5])
        calls = [
            (Space, [whole("bits", 4), words("words", [6, 5], 4)]), (every, [whole("bits", 4)]),
            (made.inside, [space("other", made)]), (made.completing, [space("other", made)]),
            (made.least, [word("word", 3, 4)]), (made.listed, [word("word", 3, 4)]),
            (shared_complement, [any_space("one", made), space("other", made)]),
        ]
        for function, places in calls:
            check_wrong(self, function, places)
            check_names(self, function, places)

    def test_wrong_operands(self):
        made = Space(4, [6, 5])
        check_wrong(self, lambda other: made & other, [space("other", made)], named=False)
        check_wrong(self, lambda other: made + other, [space("other", made)], named=False)
        check_wrong(self, lambda each: each in made, [word("word", 3, 4)], named=False)

    def test_wrong_values_ahead_of_other_errors(self):
        large = every(13)
        check_wrong(self, large.listed, [word("word", 3, 13)])
        for wrong in (None, Space(5, [])):
            with self.assertRaises(ValueError) as caught:
                shared_complement(Space(4, [1]), wrong)
            self.assertIs(caught.exception.value, wrong)

    def test_values_ahead_of_a_space(self):
        for value in (1, None, [1], "a"):
            with self.assertRaises(TypeError):
                value & Space(4, [1])
            with self.assertRaises(TypeError):
                value + Space(4, [1])


if __name__ == "__main__":
    unittest.main()
