import random
import time
import unittest
from math import lcm

from laneswap.errors import BadValue
from laneswap.sizes import Size, Sizes
from tests.wrong import STRANGE, Place, check_names, check_wrong, list_of, no_wholes, themselves, whole, wholes

FAR = 10 ** 30


def value_of(first, cycle, gain, n):
    """The value at a size, as the document tells it."""
    if n < len(first):
        return first[n]
    turns, at = divmod(n - len(first), len(cycle))
    return cycle[at] + gain * turns


def drawn_line(draw, longest=6):
    """What a Size is made of; short, often with a rhythm that is told several times over or set in late."""
    first = [draw.randrange(-3, 4) for _ in range(draw.randrange(4))]
    cycle = [draw.randrange(-2, 3) for _ in range(draw.randrange(1, longest))]
    gain = draw.randrange(-3, 4)
    for _ in range(draw.choice((0, 0, 5))):
        first.append(cycle[0])
        cycle = [*cycle[1:], cycle[0] + gain]
    times = draw.choice((1, 1, 2, 3))
    cycle = [value + gain * turn for turn in range(times) for value in cycle]
    return first, cycle, gain * times


def retold(draw, first, cycle, gain):
    """Another way to tell the same line."""
    for _ in range(draw.randrange(4)):
        first, cycle = [*first, cycle[0]], [*cycle[1:], cycle[0] + gain]
    return first, cycle + [value + gain for value in cycle], 2 * gain


def drawn_set(draw):
    """What a Sizes is made of."""
    start, period = draw.randrange(6), draw.randrange(1, 7)
    few = draw.sample(range(start), draw.randrange(start + 1))
    rests = draw.sample(range(period), draw.randrange(period + 1))
    times = draw.choice((1, 1, 2, 3))
    if draw.randrange(2):
        later = start + draw.randrange(9)
        few += [n for n in range(start, later) if n % period in rests]
        start = later
    draw.shuffle(few)
    return few, start, period * times, [rest + period * turn for turn in range(times) for rest in rests]


def in_set(few, start, period, rests, n):
    return n in few if n < start else n % period in rests


def near_and_far(period):
    return [*range(90), *range(FAR - 3, FAR + 2 * period)]


class SizeTest(unittest.TestCase):

    def test_values_and_least_form(self):
        draw = random.Random(1)
        for _ in range(600):
            first, cycle, gain = drawn_line(draw)
            size = Size(first, cycle, gain)
            for n in near_and_far(len(cycle)):
                self.assertEqual(size(n), value_of(first, cycle, gain, n))
            self.check_least(size, len(first), len(cycle))

    def check_least(self, size, start, period):
        """That no lesser period has the same values, and for this one no lesser start."""
        self.assertIsInstance(size.first, tuple)
        self.assertIsInstance(size.cycle, tuple)
        self.assertTrue(len(size.first) <= start and len(size.cycle) <= period)
        values = [size(n) for n in range(start + 3 * period + 8)]
        for least in range(1, len(size.cycle)):
            gains = {after - value for value, after in zip(values[start:], values[start + least:])}
            self.assertGreater(len(gains), 1)
        begin = len(size.first)
        for n in range(begin, start + period):
            self.assertEqual(values[n + len(size.cycle)] - values[n], size.gain)
        if begin:
            self.assertNotEqual(values[begin - 1 + len(size.cycle)] - values[begin - 1], size.gain)

    def test_told_forms(self):
        told = [(([0, 1, 1, 3], [4, 4, 6], 3), ((), (0, 1, 1), 3)), (([], [5], 0), ((), (5,), 0)),
                (([5], [5, 5], 0), ((), (5,), 0)), (([4], [5, 5], 0), ((4,), (5,), 0)), (([], [0, 1, 2, 3], 4), ((), (0,), 1)),
                (([], [0, 1, 2, 3], 5), ((), (0, 1, 2, 3), 5)), (([], [0, 0, 1, 1], 2), ((), (0, 0), 1)),
                (([-1, 0], [1, 2], 2), ((), (-1,), 1)), (([0, 0], [0, 1], 1), ((0,), (0, 0), 1)),
                (([], [1, 0], -2), ((), (1,), -1)), (([3], [1, 1], -1), ((3,), (1, 1), -1)), (([2], [1, 1], -1), ((), (2, 1), -1)),
                (([], [0, 3, 0, 3], 0), ((), (0, 3), 0)), (([7, 7], [0, 0, 0], 0), ((7, 7), (0,), 0)),
                (([], [0] * 60, 60), ((), (0,) * 60, 60)), (([], list(range(0, 120, 2)), 120), ((), (0,), 2))]
        for line, (first, cycle, gain) in told:
            size = Size(*line)
            self.assertEqual((size.first, size.cycle, size.gain), (first, cycle, gain))
        self.assertEqual(Size((), (0, 1, 1), 3)(FAR + 1), FAR)

    def test_equal_ones(self):
        draw = random.Random(2)
        found = {True: 0, False: 0}
        for _ in range(800):
            one, other = drawn_line(draw, 3), drawn_line(draw, 3)
            if draw.randrange(3) == 0:
                other = retold(draw, *one)
            alike = all([value_of(*one, n) == value_of(*other, n) for n in range(40)])
            first, second = Size(*one), Size(*other)
            self.assertIs(first == second, alike)
            self.assertEqual((first.first, first.cycle, first.gain) == (second.first, second.cycle, second.gain), alike)
            found[alike] += 1
        self.assertGreater(min(found.values()), 15)
        for other in (None, 0, (0,), "", Sizes([], 0, 1, [])):
            self.assertFalse(Size([], [0], 0) == other)
            self.assertTrue(Size([], [0], 0) != other)

    def test_sums_and_products(self):
        draw = random.Random(3)
        for _ in range(300):
            one, other, number = drawn_line(draw), drawn_line(draw), draw.choice((0, 1, -1, 2, -3, 10 ** 30))
            first, second = Size(*one), Size(*other)
            made = {"+": first + second, "-": first - second, "+n": first + number, "n+": number + first,
                    "-n": first - number, "n-": number - first, "*": first * number, "n*": number * first}
            for n in near_and_far(lcm(len(one[1]), len(other[1]))):
                left, right = value_of(*one, n), value_of(*other, n)
                told = {"+": left + right, "-": left - right, "+n": left + number, "n+": number + left,
                        "-n": left - number, "n-": number - left, "*": left * number, "n*": left * number}
                self.assertEqual({sign: size(n) for sign, size in made.items()}, told)
            for size in made.values():
                self.check_least(size, max(len(one[0]), len(other[0])), lcm(len(one[1]), len(other[1])))

    def test_greater_below_and_equal(self):
        draw = random.Random(4)
        for _ in range(400):
            one, other = drawn_line(draw), draw.choice([drawn_line(draw), draw.randrange(-5, 6)])
            first, second = Size(*one), other
            line = ([], [other], 0) if isinstance(other, int) else other
            if not isinstance(other, int):
                second = Size(*other)
            greater, below, equal = first.greater(second), first.below_at(second), first.equal_at(second)
            for n in near_and_far(lcm(len(one[1]), len(line[1]))):
                left, right = value_of(*one, n), value_of(*line, n)
                self.assertEqual(greater(n), max(left, right))
                self.assertIs(n in below, left < right)
                self.assertIs(n in equal, left == right)

    def test_lines_that_cross(self):
        for steep, level, at in [(2, 7, 7), (20, 300, 16), (3, 1000, 500)]:
            early = Size((), (0,), steep).below_at(Size((), (level,), 1))
            crossing = min([n for n in range(2000) if steep * n >= level + n])
            self.assertEqual((early.few, early.start, early.period, early.rests), (tuple(range(crossing)), crossing, 1, ()))
            self.assertEqual(crossing, at)
            late = Size((), (level,), 1).below_at(Size((), (0,), steep))
            self.assertEqual(late, ~early & ~Size((), (0,), steep).equal_at(Size((), (level,), 1)))
            both = Size((), (0,), steep).greater(Size((), (level,), 1))
            self.assertEqual((both(crossing - 1), both(crossing), both.gain), (level + crossing - 1, steep * crossing, steep))
        waves = Size((), (0, 10), 0).greater(Size((), (0,), 1))
        self.assertEqual([waves(n) for n in range(14)], [0, 10, 2, 10, 4, 10, 6, 10, 8, 10, 10, 11, 12, 13])
        down = Size((), (3,), -1)
        self.assertEqual((down.below_at(0), down.equal_at(0)), (Sizes([], 4, 1, [0]), Sizes([3], 4, 1, [])))
        self.assertEqual((down.greater(-2)(FAR), down.greater(-2)(4), (-1 * down).below_at(0).few), (-2, -1, (0, 1, 2)))

    def test_large_numbers_of_sizes_and_long_cycles(self):
        draw = random.Random(5)
        start = time.monotonic()
        for periods in [(16, 25), (20, 57), (59, 6), (60, 60), (50, 40)]:
            lines = []
            for period in periods:
                first = [draw.randrange(-1000, 1001) for _ in range(60)]
                lines.append((first, [draw.randrange(-1000, 1001) for _ in range(period)], draw.randrange(-20, 21)))
            one, other = Size(*lines[0]), Size(*lines[1])
            total, greater, below = one + other, one.greater(other), one.below_at(other)
            for n in [*range(500), *range(FAR, FAR + 100)]:
                left, right = value_of(*lines[0], n), value_of(*lines[1], n)
                self.assertEqual((total(n), greater(n), n in below), (left + right, max(left, right), left < right))
        self.assertLess(time.monotonic() - start, 30)

    def test_copies_what_it_is_given(self):
        first, cycle = [1, 2], [5]
        size = Size(first, cycle, 0)
        first[0], cycle[0] = 7, 7
        self.assertEqual((size.first, size.cycle, size(0), size(9)), ((1, 2), (5,), 1, 5))


class SizesTest(unittest.TestCase):

    def test_members_and_least_form(self):
        draw = random.Random(6)
        for _ in range(600):
            told = drawn_set(draw)
            sizes = Sizes(*told)
            for n in near_and_far(told[2]):
                self.assertIs(n in sizes, in_set(*told, n))
            self.check_least(sizes, told[1], told[2])

    def check_least(self, sizes, start, period):
        """That no lesser period tells the same far sizes, and for this one no lesser start."""
        self.assertTrue(sizes.start <= start and sizes.period <= period)
        for told in (sizes.few, sizes.rests):
            self.assertEqual(told, tuple(sorted(told)))
        self.assertEqual(sizes.few, tuple([n for n in range(sizes.start) if n in sizes]))
        far = [n in sizes for n in range(start, start + 3 * period)]
        for least in range(1, sizes.period):
            self.assertNotEqual(far[least:], far[:-least])
        if sizes.start:
            last = sizes.start - 1
            self.assertNotEqual(last in sizes, last % sizes.period in sizes.rests)

    def test_told_forms(self):
        told = [(([], 0, 1, []), ((), 0, 1, ())), (([], 9, 5, []), ((), 0, 1, ())), (([], 0, 1, [0]), ((), 0, 1, (0,))),
                (([1, 0], 2, 4, [3, 1, 0, 2]), ((), 0, 1, (0,))), (([], 3, 4, [1, 3]), ((), 2, 2, (1,))),
                (([1], 3, 4, [3, 1]), ((), 0, 2, (1,))), (([2, 0], 3, 1, []), ((0, 2), 3, 1, ())),
                (([], 1, 3, [0]), ((), 1, 3, (0,))), (([0], 1, 3, [0]), ((), 0, 3, (0,))), (([], 200, 1, [0]), ((), 200, 1, (0,))),
                ((list(range(7)), 7, 5, []), (tuple(range(7)), 7, 1, ())), (([], 0, 6, [1, 3]), ((), 0, 6, (1, 3))),
                (([], 0, 200, list(range(0, 200, 8))), ((), 0, 8, (0,)))]
        for form, least in told:
            sizes = Sizes(*form)
            self.assertEqual((sizes.few, sizes.start, sizes.period, sizes.rests), least)
            self.check_least(sizes, form[1], form[2])

    def test_operators_as_for_sets(self):
        draw = random.Random(7)
        alike = {True: 0, False: 0}
        for _ in range(500):
            one, other = drawn_set(draw), drawn_set(draw)
            first, second = Sizes(*one), Sizes(*other)
            both, either, beyond = first & second, first | second, ~first
            sizes = near_and_far(lcm(one[2], other[2]))
            for n in sizes:
                left, right = in_set(*one, n), in_set(*other, n)
                self.assertEqual((n in both, n in either, n in beyond), (left and right, left or right, not left))
            for made in (both, either, beyond):
                self.check_least(made, max(one[1], other[1]), lcm(one[2], other[2]))
            equal = all([in_set(*one, n) == in_set(*other, n) for n in sizes])
            self.assertIs(first == second, equal)
            self.assertEqual(vars(first) == vars(second), equal)
            alike[equal] += 1
        self.assertGreater(min(alike.values()), 10)
        for other in (None, 0, (), [], set(), Size([], [0], 0)):
            self.assertFalse(Sizes([], 0, 1, []) == other)

    def test_least_and_counts(self):
        draw = random.Random(8)
        for _ in range(300):
            told = drawn_set(draw)
            sizes = Sizes(*told)
            members = [n for n in range(60) if in_set(*told, n)]
            self.assertEqual(sizes.least(), members[0] if members else None)
            for n in range(60):
                self.assertEqual(sizes.many_below(n), len([each for each in members if each < n]))
            rests = len([rest for rest in range(told[2]) if rest in told[3]])
            turns, left = divmod(FAR - told[1], told[2])
            more = len([n for n in range(told[1], told[1] + left) if n % told[2] in told[3]])
            self.assertEqual(sizes.many_below(FAR), len(told[0]) + turns * rests + more)

    def test_all_and_none(self):
        for sizes, every, none in [(Sizes([], 0, 1, [0]), True, False), (Sizes([], 0, 1, []), False, True),
                                   (Sizes([0, 1], 2, 3, [0, 1, 2]), True, False), (Sizes([], 5, 3, []), False, True),
                                   (Sizes([], 1, 1, [0]), False, False), (Sizes([0], 1, 1, []), False, False),
                                   (Sizes([], 0, 2, [1]), False, False), (Sizes([3], 9, 2, []), False, False)]:
            self.assertIs(sizes.is_all, every)
            self.assertIs(sizes.is_empty, none)
            self.assertIs((~sizes).is_empty, every)
            self.assertTrue((sizes | ~sizes).is_all)
            self.assertTrue((sizes & ~sizes).is_empty)
        self.assertIsNone(Sizes([], 7, 7, []).least())

    def test_copies_what_it_is_given(self):
        few, rests = [2, 0], [1]
        sizes = Sizes(few, 4, 3, rests)
        few.append(3)
        rests[0] = 2
        self.assertEqual([n in sizes for n in range(8)], [True, False, True, False, True, False, False, True])


class WrongTest(unittest.TestCase):

    def no_integers(self):
        return [None, True, False, "1", "", [1], (1,), {}, 1.0, b"1", STRANGE]

    def integers_place(self, name, good, more):
        place = list_of(name, good, self.no_integers())
        place.wrong = [(passed, told) for passed, told in place.wrong if told not in (-1, 3)] + themselves([-1, 3] + more)
        return place

    def test_wrong_values_of_sizes(self):
        gain = Place("gain", -2, themselves(self.no_integers()))
        places = [self.integers_place("first", [1, -2], []), self.integers_place("cycle", [0, 4], [[], ()]), gain]
        check_wrong(self, Size, places)
        check_names(self, Size, places)
        size, other = Size([], [1], 1), Size([], [2], 0)
        check_wrong(self, size, [whole("n", 3)])
        check_names(self, size, [whole("n", 3)])
        line = Place("other", other, themselves(self.no_integers() + [Sizes([], 0, 1, [])]))
        for function in (size.greater, size.below_at, size.equal_at):
            check_wrong(self, function, [line])
            check_names(self, function, [line])

    def test_wrong_operands_of_sizes(self):
        size = Size([], [1], 1)
        for wrong in self.no_integers() + [Sizes([], 0, 1, [])]:
            for ask in (lambda: size + wrong, lambda: wrong + size, lambda: size - wrong, lambda: wrong - size,
                        lambda: size * wrong, lambda: wrong * size):
                with self.assertRaises(BadValue) as caught:
                    ask()
                self.assertIs(caught.exception.value, wrong)
        for other in (size, Size([], [0], 0)):
            with self.assertRaises(BadValue) as caught:
                size * other
            self.assertIs(caught.exception.value, other)

    def test_wrong_values_of_sets(self):
        few = list_of("few", [3, 0], no_wholes() + [5, 6, 1 << 300])
        few.wrong += themselves([[1, 1], (0, 2, 0)])
        rests = list_of("rests", [0, 2], no_wholes() + [4, 9])
        rests.wrong += themselves([[1, 1], (3, 2, 3)])
        start, period = whole("start", 5), Place("period", 4, themselves([*no_wholes(), 0]))
        # What few may be is told by start, so start is looked at first.
        check_wrong(self, lambda start, few, period, rests: Sizes(few, start, period, rests), [start, few, period, rests])
        check_names(self, Sizes, [few, start, period, rests])
        sizes = Sizes([], 0, 2, [1])
        check_wrong(self, sizes.many_below, [whole("n", 3)])
        check_names(self, sizes.many_below, [whole("n", 3)])
        for wrong in no_wholes():
            with self.assertRaises(BadValue) as caught:
                wrong in sizes
            self.assertIs(caught.exception.value, wrong)
        for wrong in no_wholes() + [0, Size([], [0], 0), {1}]:
            for ask in (lambda: sizes & wrong, lambda: sizes | wrong):
                with self.assertRaises(BadValue) as caught:
                    ask()
                self.assertIs(caught.exception.value, wrong)

    def test_few_below_no_start(self):
        for few, start, bad in [([0], 0, 0), ([4, 5], 5, 5), ((2, 1), 2, 2)]:
            with self.assertRaises(BadValue) as caught:
                Sizes(few, start, 1, [])
            self.assertEqual(caught.exception.value, bad)
        with self.assertRaises(BadValue) as caught:
            Sizes([0, 0, 7], -1, 0, None)
        self.assertEqual(caught.exception.value, -1)


if __name__ == "__main__":
    unittest.main()
