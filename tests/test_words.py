import random
import unittest

from laneswap.errors import BadValue
from laneswap.words import added, odd, ones, word_of
from tests.wrong import check_names, check_wrong, expect_bad, whole, wholes


class WordsTest(unittest.TestCase):

    def test_added(self):
        self.assertEqual(added([]), 0)
        self.assertEqual(added(()), 0)
        self.assertEqual(added([6, 3]), 5)
        self.assertEqual(added((6, 3)), 5)
        self.assertEqual(added([9, 9]), 0)
        self.assertEqual(added([1, 2, 4]), 7)
        self.assertEqual(added([1 << 5000, 1, 1 << 5000]), 1)
        self.assertEqual(added([0]), 0)

    def test_added_is_the_sum_at_each_bit(self):
        draw = random.Random(1)
        for _ in range(200):
            words = [draw.getrandbits(draw.choice([1, 5, 100])) for _ in range(draw.randrange(9))]
            for bit in range(101):
                self.assertEqual(added(words) // 2 ** bit % 2, sum([word // 2 ** bit % 2 for word in words]) % 2)

    def test_ones(self):
        self.assertEqual(ones(0), ())
        self.assertEqual(ones(1), (0,))
        self.assertEqual(ones(11), (0, 1, 3))
        self.assertEqual(ones((1 << 20000) + 2), (1, 20000))
        draw = random.Random(2)
        for _ in range(200):
            word = draw.getrandbits(100)
            self.assertEqual(ones(word), tuple([bit for bit in range(100) if word // 2 ** bit % 2 == 1]))
            self.assertEqual(word_of(ones(word)), word)

    def test_word_of(self):
        self.assertEqual(word_of([]), 0)
        self.assertEqual(word_of([3, 0]), 9)
        self.assertEqual(word_of((0, 3)), 9)
        self.assertEqual(word_of([400]), 1 << 400)
        self.assertEqual(word_of(list(range(400))), (1 << 400) - 1)

    def test_word_of_equal_bits(self):
        for bits, expected in [([1, 1], 1), ([0, 0], 0), ([5, 3, 7, 3, 5], 3), ([5, 3, 7, 5, 3], 5), ((2, 2, 2), 2)]:
            with self.assertRaises(BadValue) as caught:
                word_of(bits)
            self.assertEqual(caught.exception.value, expected)
            self.assertNotIsInstance(caught.exception.value, bool)

    def test_a_wrong_item_is_told_ahead_of_equal_ones(self):
        for item in (None, -1, True, "1"):
            expect_bad(self, lambda: word_of([1, 1, item]), item, item)

    def test_odd(self):
        self.assertIs(odd(6, 3), True)
        self.assertIs(odd(6, 7), False)
        self.assertIs(odd(5, 0), False)
        self.assertIs(odd(0, 5), False)
        self.assertIs(odd(1 << 5000, (1 << 5000) + 1), True)
        for word in range(32):
            for test in range(32):
                both = [bit for bit in range(5) if word >> bit & 1 and test >> bit & 1]
                self.assertIs(odd(word, test), len(both) % 2 == 1)
                for other in range(32):
                    self.assertEqual(odd(word ^ other, test), odd(word, test) != odd(other, test))

    def test_wrong_values(self):
        calls = [(added, [wholes("words", [6, 3])]), (ones, [whole("word", 11)]), (word_of, [wholes("bits", [3, 0])]),
                 (odd, [whole("word", 6), whole("test", 3)])]
        for function, places in calls:
            check_wrong(self, function, places)
            check_names(self, function, places)

    def test_lists_stay_as_they_are(self):
        words = [3, 0, 5]
        added(words)
        word_of(words)
        self.assertEqual(words, [3, 0, 5])


if __name__ == "__main__":
    unittest.main()
