import random
import time
import unittest

from laneswap.costs import Cost
from laneswap.errors import BadValue
from laneswap.sizes import Size, Sizes
from tests.test_sizes import drawn_line, drawn_set
from tests.wrong import STRANGE, Place, check_names, check_wrong, no_wholes, themselves, whole

ALL = Sizes([], 0, 1, [0])
NONE = Sizes([], 0, 1, [])
LINE = Size([], [0], 1)


def drawn_size(draw):
    """A Size none of whose values is below 0."""
    first, cycle, gain = drawn_line(draw, 4)
    return Size([abs(value) for value in first], [abs(value) for value in cycle], abs(gain))


def drawn_cost(draw, most=4):
    terms = []
    for _ in range(draw.randrange(most)):
        sizes = draw.choice([ALL, ALL, Sizes(*drawn_set(draw))])
        terms.append((draw.choice((1, 1, -1, 2, -2, 3, 5, -4, 100, 0)), drawn_size(draw), sizes))
    return Cost(terms)


def told_sum(cost, n):
    """The sum at a size, term by term."""
    return sum([number * 2 ** size(n) for number, size, sizes in cost.terms if n in sizes])


class CostTest(unittest.TestCase):

    def test_sums_and_products(self):
        draw = random.Random(1)
        for _ in range(200):
            one, other, number = drawn_cost(draw), drawn_cost(draw), draw.choice((0, 1, -1, 7, -10 ** 30))
            made = {"+": one + other, "-": one - other, "*": one * number, "n*": number * one}
            for n in [*range(20), 101]:
                left, right = told_sum(one, n), told_sum(other, n)
                self.assertEqual(one(n), left)
                self.assertEqual({sign: cost(n) for sign, cost in made.items()},
                                 {"+": left + right, "-": left - right, "*": left * number, "n*": left * number})
            for cost in made.values():
                self.assertIsInstance(cost.terms, tuple)
                self.assertTrue(all([isinstance(term, tuple) and len(term) == 3 for term in cost.terms]))

    def test_terms_are_copied(self):
        terms = [[3, LINE, ALL]]
        cost = Cost(terms)
        terms[0][0] = 7
        terms.append((1, LINE, ALL))
        self.assertEqual((cost.terms, cost(2)), (((3, LINE, ALL),), 12))

    def test_comparisons_of_drawn_costs(self):
        draw = random.Random(2)
        found = {True: 0, False: 0}
        for _ in range(300):
            one, other = drawn_cost(draw), drawn_cost(draw)
            if draw.randrange(4) == 0:
                other = one + draw.choice([Cost([]), drawn_cost(draw, 2)])
            below, equal = one.below_at(other), one.equal_at(other)
            for n in [*range(130), *range(500, 530)]:
                left, right = told_sum(one, n), told_sum(other, n)
                self.assertIs(n in below, left < right)
                self.assertIs(n in equal, left == right)
            self.assertIs(one == other, equal.is_all)
            found[equal.is_all] += 1
        self.assertGreater(min(found.values()), 20)

    def test_no_terms_and_terms_that_cancel(self):
        nothing = Cost([])
        self.assertEqual([nothing(0), nothing(10 ** 30), nothing.terms], [0, 0, ()])
        self.assertTrue(nothing == Cost([(0, LINE, ALL)]))
        self.assertTrue(nothing == Cost([(5, LINE, NONE)]))
        self.assertTrue(nothing == Cost([(2, LINE, ALL), (-1, LINE + 1, ALL)]))
        self.assertTrue(nothing.below_at(Cost([(1, LINE, ALL)])).is_all)
        self.assertTrue(nothing.below_at(Cost([(-1, LINE, ALL)])).is_empty)
        self.assertTrue(nothing.equal_at(nothing).is_all and nothing.below_at(nothing).is_empty)
        self.assertEqual(nothing.equal_at(Cost([(1, LINE, Sizes([], 4, 2, [1]))])), Sizes([0, 1, 2, 3], 4, 2, [0]))

    def test_equal_by_value(self):
        one = Cost([(1, LINE, Sizes([], 0, 2, [0])), (1, LINE, Sizes([], 0, 2, [1]))])
        self.assertTrue(one == Cost([(1, LINE, ALL)]))
        self.assertTrue(Cost([(4, LINE, ALL)]) == Cost([(1, LINE + 2, ALL)]))
        self.assertFalse(one == Cost([(1, LINE, Sizes([], 1, 1, [0]))]))
        self.assertTrue(one != Cost([]))
        for other in (None, 0, LINE, ALL, one.terms):
            self.assertFalse(one == other)

    def test_costs_that_cross_late_or_never(self):
        steep, flat = Cost([(1, 2 * LINE, ALL)]), Cost([(10 ** 30, LINE, ALL)])
        late = steep.below_at(flat)
        self.assertEqual((late.few, late.start, late.period, late.rests), (tuple(range(100)), 100, 1, ()))
        self.assertTrue(2 ** 99 < 10 ** 30 < 2 ** 100)
        high = Cost([(1, Size([], [350], 1), ALL)])
        self.assertEqual(steep.below_at(high), Sizes(list(range(350)), 350, 1, []))
        self.assertEqual(steep.equal_at(high), Sizes([350], 351, 1, []))
        self.assertEqual(high.below_at(steep), Sizes([], 351, 1, [0]))
        self.assertTrue((3 * flat).below_at(4 * flat).is_all)
        self.assertTrue(flat.below_at(flat + Cost([(1, Size([], [0], 0), ALL)])).is_all)
        # Between two crossings the one that grows less is the greater one.
        bent = Cost([(1, 2 * LINE, ALL), (2 ** 9, Size([], [0], 0), ALL)])
        between = bent.below_at(Cost([(72, LINE, ALL)]))
        self.assertEqual((between.few, between.start, between.rests), ((4, 5), 6, ()))
        self.assertEqual(bent.equal_at(Cost([(72, LINE, ALL)])), Sizes([3, 6], 7, 1, []))

    def test_rhythms_and_sets_of_sizes(self):
        wave = Cost([(1, Size([], [0, 3], 2), ALL)])
        self.assertEqual(wave.below_at(Cost([(1, LINE, ALL)])), NONE)
        self.assertEqual(wave.equal_at(Cost([(1, LINE, ALL)])), Sizes([], 0, 2, [0]))
        gaps = Cost([(1, LINE, Sizes([], 0, 3, [0, 1])), (-2, 3 * LINE, Sizes([5], 9, 3, [2]))])
        self.assertEqual([gaps(n) for n in (0, 2, 5, 8, 11)], [1, 0, -2 ** 16, 0, -2 ** 34])
        self.assertEqual(gaps.below_at(Cost([])), Sizes([5], 9, 3, [2]))
        self.assertEqual(gaps.equal_at(Cost([])), Sizes([2, 8], 9, 1, []))

    def test_large_costs(self):
        draw = random.Random(3)
        start = time.monotonic()
        for periods in [(16, 25), (20, 40), (60, 12)]:
            costs = []
            for period in periods:
                terms = []
                for _ in range(20):
                    first = [draw.randrange(200) for _ in range(30)]
                    cycle = [draw.randrange(200) for _ in range(period)]
                    rests = draw.sample(range(period), period // 2)
                    gain = draw.choice((0, period, 2 * period))
                    terms.append((draw.randrange(-10 ** 30, 10 ** 30), Size(first, cycle, gain), Sizes([], 10, period, rests)))
                costs.append(Cost(terms))
            one, other = costs
            below = one.below_at(other)
            for n in [*range(0, 700, 7), 1000, 1001]:
                self.assertIs(n in below, told_sum(one, n) < told_sum(other, n))
            self.assertFalse(one == other)
            self.assertTrue(one - other == (other - one) * -1)
        self.assertLess(time.monotonic() - start, 60)

    def test_growths_of_nearly_the_same_speed(self):
        # 2 ** 40 for each turn against 2 ** 39 and a number of thirty figures.
        one = Cost([(1, Size([], [0], 40), ALL), (1, Size([], [900], 0), ALL)])
        other = Cost([(10 ** 9, Size([], [60], 39), ALL)])
        below = one.below_at(other)
        for n in range(200):
            self.assertIs(n in below, told_sum(one, n) < told_sum(other, n))
        self.assertEqual(below.rests, ())


class WrongTest(unittest.TestCase):

    def test_wrong_values(self):
        term = (2, LINE, ALL)
        items = [None, 0, (), (1,), (1, LINE), (1, LINE, ALL, ALL), (True, LINE, ALL), (1.0, LINE, ALL), (None, LINE, ALL),
                 ("1", LINE, ALL), (1, 3, ALL), (1, None, ALL), (1, ALL, ALL), (1, LINE, LINE), (1, LINE, None), (1, LINE, [0]),
                 (1, Size([-1], [0], 0), ALL), (1, Size([], [-1], 1), ALL), (1, Size([], [5, 3, -1], 0), ALL),
                 (1, Size([], [9], -1), ALL), (1, Size([], [9], -1), NONE), "abc", STRANGE, {}, LINE]
        wrong = [None, -1, 0, True, "a", {}, STRANGE, LINE, Cost([])]
        pairs = themselves(wrong)
        for item in items:
            for values in ([item], [term, item], (item, term), [term, item, None]):
                pairs.append((values, item))
        places = [Place("terms", [term], pairs)]
        check_wrong(self, Cost, places)
        check_names(self, Cost, places)
        cost = Cost([term])
        check_wrong(self, cost, [whole("n", 3)])
        check_names(self, cost, [whole("n", 3)])
        other = Place("other", Cost([]), themselves([None, 0, True, "a", [], cost.terms, LINE, ALL, STRANGE]))
        for function in (cost.below_at, cost.equal_at):
            check_wrong(self, function, [other])
            check_names(self, function, [other])

    def test_wrong_operands(self):
        cost = Cost([(2, LINE, ALL)])
        for wrong in (None, 0, 1, True, "a", [], cost.terms, LINE, ALL, STRANGE):
            for ask in (lambda: cost + wrong, lambda: cost - wrong):
                with self.assertRaises(BadValue) as caught:
                    ask()
                self.assertIs(caught.exception.value, wrong)
        for wrong in (None, True, "a", [], (1,), 1.0, ALL, STRANGE):
            for ask in (lambda: cost * wrong, lambda: wrong * cost):
                with self.assertRaises(BadValue) as caught:
                    ask()
                self.assertIs(caught.exception.value, wrong)
        with self.assertRaises(BadValue):
            cost * cost
        for wrong in no_wholes():
            with self.assertRaises(BadValue):
                cost(wrong)


if __name__ == "__main__":
    unittest.main()
