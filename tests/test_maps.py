import random
import time
import unittest

from laneswap.errors import NotDivisible, NotOneToOne, NotOnto
from laneswap.maps import Map, unit_map
from laneswap.spaces import Space, every
from tests.wrong import below, check_names, check_wrong, space, told_map, whole, word, words


def drawn_map(draw, goal, source):
    return Map(goal, [draw.randrange(2 ** goal) for _ in range(source)])


def drawn_maps(seed, many):
    """Maps from and to up to 4 bits."""
    draw = random.Random(seed)
    for _ in range(many):
        yield drawn_map(draw, draw.randrange(5), draw.randrange(5))


def image(made, each):
    """The image of a word, told without the map's own ways."""
    total = 0
    for bit in range(made.source):
        if each // 2 ** bit % 2:
            total ^= made.columns[bit]
    return total


def table_of(made):
    return [image(made, each) for each in range(2 ** made.source)]


def first_kernel_word(made):
    return min([each for each in range(1, 2 ** made.source) if image(made, each) == 0], default=None)


def first_missing(made):
    return min(set(range(2 ** made.goal)) - set(table_of(made)), default=None)


class MapTest(unittest.TestCase):

    def test_attributes_images_and_columns(self):
        for made in drawn_maps(1, 100):
            self.assertEqual(made.source, len(made.columns))
            self.assertIsInstance(made.columns, tuple)
            self.assertEqual([made(each) for each in range(2 ** made.source)], table_of(made))
            self.assertEqual([made[bit] for bit in range(made.source)], list(made.columns))
            self.assertEqual(list(made), list(made.columns))

    def test_no_bits(self):
        none = Map(0, [])
        self.assertEqual((none(0), none.rank(), list(none), ~none, none.solve(0)), (0, 0, [], none, 0))
        self.assertEqual(none, unit_map(0))
        wide = Map(3, [])
        self.assertEqual((wide(0), wide.solve(0), wide.solve(5), wide.turned()), (0, 0, None, Map(0, [0, 0, 0])))
        self.assertEqual((wide.kernel(), wide.image()), (Space(0, []), Space(3, [])))
        flat = Map(0, [0, 0])
        self.assertEqual((flat(3), flat.kernel(), flat.turned()), (0, every(2), Map(2, [])))
        self.assertEqual((none // flat if none.source == flat.source else None, flat // flat), (None, none))

    def test_iterated_over_twice_at_once(self):
        made = Map(3, [1, 6, 3])
        self.assertEqual([(one, two) for one in made for two in made],
                         [(one, two) for one in (1, 6, 3) for two in (1, 6, 3)])
        first, second = iter(made), iter(made)
        self.assertEqual([next(first), next(second), next(first), next(second)], [1, 1, 6, 6])
        self.assertIn(6, made)
        self.assertEqual(tuple(zip(made, made)), ((1, 1), (6, 6), (3, 3)))

    def test_product_and_sum(self):
        draw = random.Random(2)
        for _ in range(200):
            source, middle, goal = [draw.randrange(5) for _ in range(3)]
            one, other = drawn_map(draw, goal, middle), drawn_map(draw, middle, source)
            further = drawn_map(draw, middle, source)
            product, total = one * other, other + further
            self.assertEqual((product.source, product.goal), (source, goal))
            self.assertEqual(table_of(product), [image(one, image(other, each)) for each in range(2 ** source)])
            self.assertEqual((total.source, total.goal), (source, middle))
            self.assertEqual(table_of(total), [a ^ b for a, b in zip(table_of(other), table_of(further))])

    def test_undone(self):
        found = {"undone": 0, "not one to one": 0, "not onto": 0}
        for made in drawn_maps(3, 600):
            kernel_word, missing = first_kernel_word(made), first_missing(made)
            if kernel_word is not None:
                with self.assertRaises(NotOneToOne) as caught:
                    ~made
                self.assertEqual(caught.exception.word, kernel_word)
                found["not one to one"] += 1
            elif missing is not None:
                with self.assertRaises(NotOnto) as caught:
                    ~made
                self.assertEqual(caught.exception.word, missing)
                found["not onto"] += 1
            else:
                self.assertEqual(~made * made, unit_map(made.source))
                self.assertEqual(made * ~made, unit_map(made.source))
                self.assertEqual(~~made, made)
                found["undone"] += 1
        self.assertGreater(min(found.values()), 20)

    def test_neither_one_to_one_nor_onto(self):
        with self.assertRaises(NotOneToOne) as caught:
            ~Map(3, [2, 4, 2])
        self.assertEqual(caught.exception.word, 5)
        with self.assertRaises(NotOnto) as caught:
            ~Map(3, [1, 4])
        self.assertEqual(caught.exception.word, 2)

    def test_division(self):
        draw = random.Random(4)
        found = {"divided": 0, "not onto": 0, "not divisible": 0}
        for _ in range(1500):
            source = draw.randrange(5)
            other = drawn_map(draw, draw.randrange(4), source)
            one = drawn_map(draw, draw.randrange(4), source)
            if draw.randrange(2):
                one = drawn_map(draw, draw.randrange(4), other.goal) * other
            found[self.check_division(one, other)] += 1
        self.assertGreater(min(found.values()), 50)

    def check_division(self, one, other):
        missing = first_missing(other)
        if missing is not None:
            with self.assertRaises(NotOnto) as caught:
                one // other
            self.assertEqual(caught.exception.word, missing)
            return "not onto"
        bad = [row for row in other.kernel().rows if image(one, row)]
        if bad:
            with self.assertRaises(NotDivisible) as caught:
                one // other
            self.assertEqual(caught.exception.word, bad[0])
            return "not divisible"
        quotient = one // other
        self.assertEqual((quotient.source, quotient.goal), (other.goal, one.goal))
        self.assertEqual(quotient * other, one)
        return "divided"

    def test_rank_kernel_image(self):
        for made in drawn_maps(5, 300):
            images = set(table_of(made))
            zeros = [each for each in range(2 ** made.source) if image(made, each) == 0]
            self.assertEqual(2 ** made.rank(), len(images))
            self.assertEqual(made.kernel(), Space(made.source, zeros))
            self.assertEqual(made.kernel().dimension + made.rank(), made.source)
            self.assertEqual(made.image(), Space(made.goal, sorted(images)))

    def test_solve(self):
        for made in drawn_maps(6, 300):
            images = table_of(made)
            for each in range(2 ** made.goal):
                expected = images.index(each) if each in images else None
                self.assertEqual(made.solve(each), expected)

    def test_turned(self):
        for made in drawn_maps(7, 100):
            turned = made.turned()
            self.assertEqual((turned.source, turned.goal), (made.goal, made.source))
            for at in range(made.source):
                for bit in range(made.goal):
                    self.assertEqual(turned[bit] >> at & 1, made[at] >> bit & 1)
            self.assertEqual(turned.turned(), made)
            self.assertEqual(turned.rank(), made.rank())

    def test_moved_and_origin(self):
        draw = random.Random(8)
        for made in drawn_maps(9, 300):
            begin = Space(made.source, [draw.randrange(2 ** made.source) for _ in range(2)])
            end = Space(made.goal, [draw.randrange(2 ** made.goal) for _ in range(2)])
            self.assertEqual(made.moved(begin).listed(), tuple(sorted({image(made, each) for each in begin.listed()})))
            expected = [each for each in range(2 ** made.source) if image(made, each) in end]
            self.assertEqual(made.origin(end).listed(), tuple(expected))

    def test_beside_and_stacked(self):
        draw = random.Random(10)
        for _ in range(100):
            source, goal, more = [draw.randrange(4) for _ in range(3)]
            made = drawn_map(draw, goal, source)
            self.assertEqual(made.beside(Map(goal, [0] * more)).columns, made.columns + (0,) * more)
            other = drawn_map(draw, more, source)
            stacked = made.stacked(other)
            self.assertEqual((stacked.source, stacked.goal), (source, goal + more))
            expected = [image(made, each) + 2 ** goal * image(other, each) for each in range(2 ** source)]
            self.assertEqual(table_of(stacked), expected)

    def test_unit_map(self):
        for bits in (0, 1, 5, 100):
            made = unit_map(bits)
            self.assertEqual(made.columns, tuple([2 ** bit for bit in range(bits)]))
            self.assertEqual((made.goal, ~made, made * made, made.turned()), (bits, made, made, made))

    def test_equality(self):
        self.assertEqual(Map(2, [1, 2]), Map(2, (1, 2)))
        self.assertNotEqual(Map(2, [1, 2]), Map(3, [1, 2]))
        self.assertNotEqual(Map(2, [1, 2]), Map(2, [2, 1]))
        for other in (None, 0, (1, 2), [1, 2], "a", Space(2, [1, 2]), object()):
            self.assertFalse(Map(2, [1, 2]) == other)
            self.assertTrue(Map(2, [1, 2]) != other)

    def test_lists_are_copied(self):
        columns = [1, 3, 2]
        made = Map(2, columns)
        self.assertEqual(columns, [1, 3, 2])
        columns[0] = 0
        columns.append(1)
        self.assertEqual((made.columns, made.source), ((1, 3, 2), 3))
        told = list(made)
        told[0] = 0
        self.assertEqual(made, Map(2, [1, 3, 2]))

    def test_operators_leave_their_operands(self):
        one, other = Map(2, [1, 3, 2]), Map(2, [3, 2])
        results = [(other * one, one + one, ~other, one // one) for _ in range(2)]
        self.assertEqual((one, other), (Map(2, [1, 3, 2]), Map(2, [3, 2])))
        self.assertEqual(results[0], results[1])

    def test_a_hundred_bits(self):
        draw = random.Random(11)
        start = time.monotonic()
        made = drawn_map(draw, 100, 100)
        while made.rank() < 100:
            made = drawn_map(draw, 100, 100)
        self.assertEqual(~made * made, unit_map(100))
        wide = drawn_map(draw, 100, 200)
        self.assertEqual((wide.rank(), wide.kernel().dimension), (100, 100))
        each = draw.getrandbits(100)
        self.assertEqual(wide(wide.solve(each)), each)
        self.assertEqual(wide.kernel().least(wide.solve(each)), wide.solve(each))
        self.assertEqual((made * wide) // wide, made)
        self.assertEqual(wide.turned().turned(), wide)
        self.assertEqual(wide.origin(Space(100, [])), wide.kernel())
        self.assertLess(time.monotonic() - start, 20)


class WrongTest(unittest.TestCase):

    def test_wrong_values(self):
        made = Map(3, [1, 6, 3, 2])
        calls = [
            (Map, [whole("goal", 3), words("columns", [1, 6], 3)]), (unit_map, [whole("bits", 3)]),
            (made, [word("word", 5, 4)]), (made.solve, [word("word", 5, 3)]),
            (made.moved, [space("space", Space(4, [1, 2]))]), (made.origin, [space("space", Space(3, [1, 2]))]),
            (made.beside, [told_map("other", Map(3, [1]), [Map(2, [1, 2, 3, 1]), Map(4, [1, 6, 3, 2])])]),
            (made.stacked, [told_map("other", Map(1, [1, 0, 0, 1]), [Map(3, [1, 2, 3]), Map(3, [])])]),
        ]
        for function, places in calls:
            check_wrong(self, function, places)
            check_names(self, function, places)

    def test_wrong_operands(self):
        made = Map(3, [1, 6, 3, 2])
        other_sizes = [Map(3, [1, 2, 4]), Map(3, [1, 2, 4, 1, 2])]
        calls = [
            (lambda bit: made[bit], [below("bit", 3, 4)]),
            (lambda other: made * other, [told_map("other", Map(4, [8]), [Map(3, [1, 2, 4]), Map(5, [])])]),
            (lambda other: made + other, [told_map("other", made, other_sizes + [Map(4, [1, 2, 4, 0])])]),
            (lambda other: made // other, [told_map("other", Map(1, [1, 1, 0, 1]), other_sizes)]),
        ]
        for function, places in calls:
            check_wrong(self, function, places, named=False)

    def test_columns_are_not_sliced_or_counted_from_the_end(self):
        check_wrong(self, lambda bit: Map(3, [1, 6])[bit], [below("bit", 1, 2)], named=False)
        part = slice(0, 1)
        with self.assertRaises(ValueError) as caught:
            Map(3, [1, 6])[part]
        self.assertEqual(caught.exception.value, part)

    def test_a_wrong_operand_is_told_ahead_of_other_errors(self):
        with self.assertRaises(ValueError) as caught:
            Map(2, [1, 2, 3]) // 5
        self.assertEqual(caught.exception.value, 5)

    def test_values_ahead_of_a_map(self):
        for value in (2, None, [1], "a"):
            for work in (lambda: value * Map(2, [1]), lambda: value + Map(2, [1]), lambda: value // Map(2, [1])):
                with self.assertRaises(TypeError):
                    work()


if __name__ == "__main__":
    unittest.main()
