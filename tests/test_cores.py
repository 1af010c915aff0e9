import random
import time
import unittest
from itertools import combinations

from laneswap.cores import Core, core, free_for_all, least_for_all, own_number
from laneswap.errors import BadValue, TooLarge, TooWide
from laneswap.maps import Map
from laneswap.spaces import Space, every
from laneswap.threes import jam
from tests.drawing import (drawn_far, drawn_space, drawn_triple, drawn_undoable, kernels_of_all_maps, marked)
from tests.test_threes import meet_and_sum
from tests.wrong import Place, check_names, check_wrong, list_of, no_wholes, spaces_list, themselves, whole


def small_sets(many):
    """The sets of at most two indexes and that of all, each once."""
    found = [chosen for size in range(3) for chosen in combinations(range(many), size)]
    return found + [each for each in [tuple(range(many))] if each not in found]


def own_number_of(spaces, chosen):
    common, others = meet_and_sum(spaces, chosen)
    return common.dimension - (common & others).dimension


def drawn_list(draw, bits, many):
    """So many Spaces of few bits, that often share words."""
    words = [draw.randrange(2 ** bits) for _ in range(4)]
    found = []
    for _ in range(many):
        made = [draw.choice([*words, draw.randrange(2 ** bits)]) for _ in range(draw.randrange(min(4, bits + 1)))]
        found.append(Space(bits, made))
    return found


def general_spaces(draw, bits, many, dimension):
    """So many Spaces of this dimension in general position."""
    found = []
    for _ in range(many):
        found.append(Space(bits, drawn_far(draw, bits, bits, 0).slots[:dimension]))
    return found


class CoreTest(unittest.TestCase):

    def check_core(self, spaces):
        bits, made = spaces[0].bits, core(spaces)
        self.assertIsInstance(made, Core)
        self.assertIsInstance(made.lines, tuple)
        words = [word for word, _ in made.lines]
        self.assertEqual(len(words) + made.rest.dimension, bits)
        self.assertEqual(Space(bits, words) + made.rest, every(bits))
        self.assertEqual(made.accesses, tuple([each & made.rest for each in spaces]))
        for at, each in enumerate(spaces):
            held = [word for word, chosen in made.lines if at in chosen]
            self.assertEqual(Space(bits, held) + made.accesses[at], each)
        sets = small_sets(len(spaces))
        for chosen in {indexes for _, indexes in made.lines}:
            self.assertIn(chosen, sets)
        if bits > 20:
            sets = random.Random(1).sample(sets, 12) + [(), sets[-1]]
        for chosen in sets:
            held = [word for word, indexes in made.lines if indexes == chosen]
            common, others = meet_and_sum(spaces, chosen)
            self.assertEqual(len(held), own_number_of(spaces, chosen))
            self.assertEqual(Space(bits, held) + (common & others), common)
        return made

    def test_drawn_lists(self):
        draw = random.Random(1)
        found = {}
        for bits in range(6):
            for many in (1, 2, 3, 4, 5):
                for _ in range(15):
                    made = self.check_core(drawn_list(draw, bits, many))
                    found[many > 3, made.rest.dimension > 0] = found.get((many > 3, made.rest.dimension > 0), 0) + 1
        self.assertGreater(min(found[True, True], found[True, False], found[False, False]), 10)
        self.assertIn((False, True), found)

    def test_core_of_one_and_two_is_only_0(self):
        draw = random.Random(2)
        for _ in range(50):
            bits = draw.randrange(6)
            spaces = [drawn_space(draw, bits) for _ in range(draw.choice((1, 2)))]
            self.assertEqual(self.check_core(spaces).rest, Space(bits, []))

    def test_core_of_three_is_their_planes(self):
        draw = random.Random(3)
        for numbers in [(1, 0, 0, 2, 0, 1, 0, 1, 1), (0, 1, 1, 0, 1, 0, 2, 0, 0), (2, 0, 1, 0, 4, 0, 0, 1, 1)]:
            made = self.check_core(drawn_triple(draw, sum(numbers) + numbers[4], numbers))
            self.assertEqual(made.rest.dimension, 2 * numbers[4])
            self.assertEqual([each.dimension for each in made.accesses], [numbers[4]] * 3)

    def test_own_number_by_its_definition(self):
        draw = random.Random(4)
        for _ in range(100):
            many = draw.randrange(1, 6)
            spaces = drawn_list(draw, draw.randrange(6), many)
            chosen = [index for index in range(many) if draw.randrange(2)]
            draw.shuffle(chosen)
            self.assertEqual(own_number(spaces, chosen), own_number_of(spaces, chosen))
        lines = [Space(3, [1, 2]), Space(3, [1, 4]), Space(3, [1])]
        numbers = [own_number(lines, chosen) for size in range(4) for chosen in combinations(range(3), size)]
        self.assertEqual(numbers, [0, 1, 1, 0, 0, 0, 0, 1])
        self.assertEqual(own_number([Space(4, [3])], []), 3)
        self.assertEqual(own_number((Space(4, [3]), Space(4, [3])), (1, 0)), 1)

    def test_numbers_of_the_core_do_not_depend_on_choices(self):
        draw = random.Random(5)
        for _ in range(30):
            bits, many = draw.randrange(3, 6), draw.randrange(3, 6)
            spaces = drawn_list(draw, bits, many)
            change, order = drawn_undoable(draw, bits), list(range(many))
            draw.shuffle(order)
            one, other = core(spaces), core([change.moved(spaces[index]) for index in order])
            self.assertEqual(one.rest.dimension, other.rest.dimension)
            self.assertEqual([one.accesses[index].dimension for index in order], [each.dimension for each in other.accesses])

    def test_twelve_of_hundred_bits(self):
        draw = random.Random(6)
        start = time.monotonic()
        for dimension in (4, 9, 97):
            self.check_core(general_spaces(draw, 100, 12, dimension))
        self.assertLess(time.monotonic() - start, 60)


class FreeTest(unittest.TestCase):

    def check_free(self, spaces, banks):
        made = free_for_all(spaces, banks)
        self.assertEqual((made.source, made.goal), (spaces[0].bits, banks))
        self.assertEqual([jam(each, made) for each in spaces], [0] * len(spaces))

    def test_all_bank_maps(self):
        draw = random.Random(7)
        found = {True: 0, False: 0}
        for bits, most in ((0, 2), (1, 2), (2, 3), (3, 3), (4, 3)):
            for banks in range(most + 1):
                kernels = kernels_of_all_maps(bits, banks)
                for many in (1, 2, 3, 4, 4, 5):
                    for _ in range(30):
                        spaces = drawn_list(draw, bits, many)
                        asked = [marked(each) for each in spaces]
                        exists = any([all([kernel & words == 1 for words in asked]) for kernel in kernels])
                        self.check_all(spaces, banks, exists, found)
        self.assertGreater(min(found.values()), 100)

    def test_all_bank_maps_of_larger_cores(self):
        draw = random.Random(13)
        found, cores = {True: 0, False: 0}, {}
        for bits, banks in ((5, 2), (5, 3), (6, 2)):
            kernels = kernels_of_all_maps(bits, banks)
            for _ in range(150):
                many = draw.randrange(4, 9)
                spaces = draw.choice([drawn_list(draw, bits, many), general_spaces(draw, bits, many, draw.choice((1, 2, banks)))])
                asked = [marked(each) for each in spaces]
                exists = any([all([kernel & words == 1 for words in asked]) for kernel in kernels])
                self.check_all(spaces, banks, exists, found)
                dimension = core(spaces).rest.dimension
                cores[dimension] = cores.get(dimension, 0) + 1
        self.assertGreater(min(found.values()), 100)
        self.assertGreater(min(cores[5], cores[6]), 20)

    def check_all(self, spaces, banks, exists, found):
        wide = [index for index, each in enumerate(spaces) if each.dimension > banks]
        if wide:
            with self.assertRaises(TooWide) as caught:
                free_for_all(spaces, banks)
            self.assertEqual(caught.exception.index, wide[0])
        elif exists:
            self.check_free(spaces, banks)
        else:
            self.assertIsNone(free_for_all(spaces, banks))
        self.assertEqual(least_for_all(spaces) <= banks, exists)
        found[exists] += 1

    def test_covered_spaces_need_more_banks(self):
        # All lines of a space of four bits, in five of them: no kernel of a map to two bits meets none.
        spread = [Space(4, [1, 2]), Space(4, [4, 8]), Space(4, [5, 10]), Space(4, [6, 11]), Space(4, [7, 9])]
        self.assertEqual(sorted({word for each in spread for word in each.listed()}), list(range(16)))
        self.assertEqual([core(spread).rest.dimension, least_for_all(spread)], [4, 4])
        self.assertEqual([free_for_all(spread, 2), free_for_all(spread, 3)], [None, None])
        self.check_free(spread, 4)
        self.check_free(spread[:4], 2)
        self.assertEqual(least_for_all(spread[1:]), 2)

    def test_words_that_all_share_need_bits_of_their_own(self):
        four = [[1, 2], [4, 8], [5, 8], [6, 8]]
        for shared in range(4):
            spaces = [Space(8, [*words, *[16 << bit for bit in range(shared)]]) for words in four]
            self.assertEqual(own_number(spaces, [0, 1, 2, 3]), shared)
            self.assertEqual(least_for_all(spaces), 3 + shared)
            self.assertIsNone(free_for_all(spaces, 2 + shared))
            for banks in range(3 + shared, 9):
                self.check_free(spaces, banks)

    def test_own_words_may_be_what_is_widest(self):
        four = [[1, 2], [4, 8], [5, 8], [6, 8]]
        for own in range(4):
            spaces = [Space(8, [*four[0], *[16 << bit for bit in range(own)]])] + [Space(8, each) for each in four[1:]]
            self.assertEqual(least_for_all(spaces), max(3, 2 + own))
            self.check_free(spaces, max(3, 2 + own))

    def test_six_dimensions_and_more(self):
        draw = random.Random(8)
        start = time.monotonic()
        found = []
        for bits, many in [(4, 4), (5, 4), (5, 6), (6, 4), (6, 8), (6, 12), (6, 5)]:
            spaces = general_spaces(draw, bits, many, 2)
            found.append(core(spaces).rest.dimension)
            least = least_for_all(spaces)
            self.check_free(spaces, least)
            for banks in range(2, least):
                self.assertIsNone(free_for_all(spaces, banks))
        self.assertEqual(max(found), 6)
        self.assertLess(time.monotonic() - start, 60)

    def test_too_large(self):
        draw = random.Random(9)
        found = []
        for bits, many, dimension in [(7, 10, 3), (8, 12, 3), (8, 6, 4), (20, 12, 10)]:
            spaces = general_spaces(draw, bits, many, dimension)
            large = core(spaces).rest.dimension
            self.assertGreater(large, 6)
            found.append(large)
            for ask in (lambda: least_for_all(spaces), lambda: free_for_all(spaces, dimension),
                        lambda: free_for_all(spaces, bits)):
                with self.assertRaises(TooLarge) as caught:
                    ask()
                self.assertEqual(caught.exception.dimension, large)
            with self.assertRaises(TooWide) as caught:
                free_for_all(spaces, dimension - 1)
            self.assertEqual(caught.exception.index, 0)
        self.assertEqual(min(found), 7)

    def test_three_of_any_core(self):
        draw = random.Random(10)
        for numbers in [(0, 0, 0, 0, 7, 0, 0, 0, 0), (2, 1, 0, 3, 20, 4, 0, 2, 6), (9, 0, 0, 0, 45, 0, 0, 0, 1)]:
            spaces = drawn_triple(draw, sum(numbers) + numbers[4], numbers)
            self.assertEqual(core(spaces).rest.dimension, 2 * numbers[4])
            least = least_for_all(spaces)
            self.assertEqual(least, max([each.dimension for each in spaces]))
            self.check_free(spaces, least)
            with self.assertRaises(TooLarge):
                least_for_all([*spaces, spaces[0]])

    def test_three_that_fill(self):
        spaces = [Space(4, [8, word]) for word in (1, 2, 3)]
        self.assertEqual(least_for_all(spaces), 3)
        self.assertIsNone(free_for_all(spaces, 2))
        self.check_free(spaces, 3)

    def test_twelve_of_hundred_bits(self):
        draw = random.Random(11)
        start = time.monotonic()
        for dimension in (4, 9):
            spaces = general_spaces(draw, 100, 10, dimension)
            self.assertEqual(least_for_all(spaces), dimension)
            self.check_free(spaces, dimension)
        inner = [[1, 2], [4, 8], [5, 8], [6, 8]]
        change = Map(100, drawn_far(draw, 100, 100, 0).slots)
        shared = [1 << bit for bit in range(4, 30)]
        spaces = [change.moved(Space(100, [*words, *shared, *[1 << bit for bit in range(30 + 8 * at, 38 + 8 * at)]]))
                  for at, words in enumerate(inner)]
        self.assertEqual([core(spaces).rest.dimension, least_for_all(spaces)], [4, 36])
        self.check_free(spaces, 36)
        self.check_free(spaces, 100)
        self.assertLess(time.monotonic() - start, 60)


class WrongTest(unittest.TestCase):

    def test_wrong_values(self):
        four = [Space(4, [1, 2]), Space(4, [4, 8]), Space(4, [5, 8]), Space(4, [6, 8])]
        spaces, banks = spaces_list("spaces", four), whole("banks", 3)
        chosen = list_of("chosen", [1, 0, 3], [item for item in no_wholes()] + [4, 1 << 300])
        chosen.wrong += themselves([[1, 1], (0, 3, 2, 0), [2] * 9])
        for function, places in [(own_number, [spaces, chosen]), (core, [spaces]), (free_for_all, [spaces, banks]),
                                 (least_for_all, [spaces])]:
            check_wrong(self, function, places)
            check_names(self, function, places)

    def test_wrong_values_ahead_of_other_errors(self):
        draw = random.Random(12)
        wide = general_spaces(draw, 8, 4, 4)
        for banks in no_wholes():
            with self.assertRaises(BadValue) as caught:
                free_for_all(wide, banks)
            self.assertIs(caught.exception.value, banks)
        check_wrong(self, free_for_all, [Place("spaces", wide, themselves([[]])), whole("banks", 9)])

    def test_arguments_stay_as_they_are(self):
        spaces, chosen = [Space(2, [1]), Space(2, [2])], [1]
        before = (list(spaces), list(chosen))
        own_number(spaces, chosen)
        made = core(spaces)
        free_for_all(spaces, 1)
        self.assertEqual((spaces, chosen), before)
        spaces[0] = every(2)
        self.assertEqual([made.accesses, made.rest.dimension], [(Space(2, []), Space(2, [])), 0])


if __name__ == "__main__":
    unittest.main()
