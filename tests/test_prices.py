import random
import time
import unittest
from itertools import product

from laneswap.errors import BadValue, NotFitting
from laneswap.maps import Map
from laneswap.prices import Prices, by_rounds, by_store
from laneswap.rounds import fewest_rounds
from laneswap.spreads import Spread
from laneswap.stores import chain, fitting, store_for
from laneswap.writes import write_count
from tests.drawing import drawn_changes, drawn_far
from tests.wrong import Place, any_spread, check_names, check_wrong, no_wholes, objects, themselves, whole


def drawn_prices(draw):
    return Prices(draw.randrange(4), draw.choice([0, 1, 1, 3, 20]), draw.choice([0, 1, 1, 2]))


def writes_told_together(spread, carried):
    """The fewest writes, with words whose sum is in the Space carried taken as one."""
    told = ~Map(spread.bits, [*carried.rows, *carried.complement().rows])
    many = carried.dimension
    slots = [told(word) >> many for word in spread.slots]
    return write_count(Spread(spread.bits - many, slots, [told(word) >> many for word in spread.lanes]))


def cost_of(one, other, prices, banks, widths):
    """What a change costs through a store for two with these widths."""
    store = store_for(one, other, widths, banks)
    writes = writes_told_together(one, chain([one, other], widths)[0])
    reads = 2 ** other.slot_space().dimension // 2 ** widths[1]
    beats = writes * 2 ** min(widths[0], len(one.lanes)) + reads * store.beats(other, widths[1])
    return (writes + reads) * prices.transfer + beats * prices.beat


class PricesTest(unittest.TestCase):

    def test_attributes(self):
        prices = Prices(10 ** 30 - 1, 0, 7)
        self.assertEqual((prices.swap, prices.transfer, prices.beat), (10 ** 30 - 1, 0, 7))

    def test_by_rounds(self):
        draw = random.Random(1)
        for one, other in drawn_changes(1, 150):
            prices = drawn_prices(draw)
            self.assertEqual(by_rounds(one, other, prices), prices.swap * fewest_rounds(one, other))
        grid, turned = Spread(4, [1, 2], [4, 8]), Spread(4, [4, 8], [1, 2])
        self.assertEqual(by_rounds(grid, turned, Prices(10 ** 30, 1, 1)), 3 * 10 ** 30)
        self.assertEqual(by_rounds(grid, turned, Prices(0, 1, 1)), 0)
        self.assertEqual(by_rounds(grid, grid, Prices(5, 1, 1)), 0)

    def test_by_store_over_all_widths(self):
        draw = random.Random(2)
        tied = 0
        for one, other in drawn_changes(3, 300, 4):
            prices = drawn_prices(draw)
            banks = draw.randrange(min(one.bits, len(one.lanes)), one.bits + 1)
            widest = draw.randrange(4)
            found = []
            for widths in product(range(min(banks, widest) + 1), repeat=2):
                if fitting([one, other], widths):
                    found.append((cost_of(one, other, prices, banks, widths), *widths))
            result = by_store(one, other, prices, banks, widest)
            self.assertIsInstance(result, tuple)
            self.assertEqual(result, min(found))
            tied += len([each for each in found if each[0] == result[0]]) > 1
        self.assertGreater(tied, 30)

    def test_told_costs(self):
        grid, turned, mixed = Spread(4, [1, 2], [4, 8]), Spread(4, [4, 8], [1, 2]), Spread(4, [1, 4], [2, 8])
        told = [(grid, turned, (1, 1), 2, 2, (13, 0, 2)), (grid, turned, (1, 1), 2, 0, (16, 0, 0)),
                (grid, turned, (1, 1), 2, 1, (14, 0, 1)), (grid, turned, (1, 1), 4, 9, (13, 0, 2)),
                (grid, turned, (0, 0), 2, 2, (0, 0, 0)), (grid, turned, (0, 1), 3, 2, (8, 0, 0)),
                (grid, mixed, (1, 0), 2, 2, (3, 1, 2)), (grid, grid, (1, 0), 3, 2, (2, 2, 2)),
                (grid, grid, (1, 0), 3, 1, (4, 1, 1)), (grid, grid, (5, 1), 2, 20, (18, 2, 2))]
        for one, other, (transfer, beat), banks, widest, expected in told:
            self.assertEqual(by_store(one, other, Prices(7, transfer, beat), banks, widest), expected)

    def test_of_equal_costs_the_least_widths(self):
        # One write in any case, for its lanes hold more than all entries.
        one, other = Spread(2, [1, 2], [1, 2, 3]), Spread(2, [1, 2], [0, 0, 0])
        self.assertEqual(by_store(one, other, Prices(0, 1, 0), 2, 2), (2, 0, 2))
        self.assertEqual(by_store(one, other, Prices(0, 0, 1), 2, 2), (5, 0, 0))
        self.assertEqual(by_store(one, other, Prices(0, 0, 0), 2, 2), (0, 0, 0))

    def test_no_bits(self):
        nothing = Spread(0, [], [])
        self.assertEqual(by_store(nothing, nothing, Prices(1, 1, 1), 0, 5), (4, 0, 0))
        self.assertEqual(by_rounds(nothing, nothing, Prices(1, 1, 1)), 0)

    def test_which_banks_may_be(self):
        grid, turned = Spread(4, [1, 2], [4, 8]), Spread(4, [4, 8], [1, 2])
        wide = Spread(2, [1, 2], [1, 2, 3])
        for one, other, good in [(grid, turned, (2, 3, 4)), (wide, wide, (2,)), (Spread(2, [1, 2], []),) * 2 + ((0, 1, 2),)]:
            for banks in range(7):
                if banks in good:
                    by_store(one, other, Prices(1, 1, 1), banks, 1)
                else:
                    with self.assertRaises(BadValue) as caught:
                        by_store(one, other, Prices(1, 1, 1), banks, 1)
                    self.assertEqual(caught.exception.value, banks)

    def test_hundred_bits(self):
        draw = random.Random(3)
        start = time.monotonic()
        for bits, slots, lanes, wanted in [(80, 40, 60, 40), (80, 78, 10, 90), (100, 30, 100, 20), (100, 100, 7, 100)]:
            one = drawn_far(draw, bits, slots, lanes)
            made = drawn_far(draw, bits, max(wanted, bits - lanes), lanes)
            other = Spread(bits, [*made.slots, *one.slots[:4]], made.lanes)
            prices = Prices(*[draw.randrange(10 ** 30) for _ in range(3)])
            least = min(bits, lanes)
            for banks, widest in [(least, 20), (bits, 5), (draw.randrange(least, bits + 1), 0), (bits, 10 ** 30)]:
                cost, writing, reading = by_store(one, other, prices, banks, widest)
                self.assertTrue(fitting([one, other], [writing, reading]))
                self.assertTrue(max(writing, reading) <= min(banks, widest))
                self.assertEqual(cost, cost_of(one, other, prices, banks, [writing, reading]))
                for _ in range(3):
                    widths = [draw.randrange(min(banks, widest, 10) + 1), draw.randrange(min(banks, widest, 10) + 1)]
                    if fitting([one, other], widths):
                        self.assertLessEqual((cost, writing, reading),
                                             (cost_of(one, other, prices, banks, widths), *widths))
        self.assertLess(time.monotonic() - start, 60)

    def test_not_fitting(self):
        prices = Prices(1, 1, 1)
        for one, other in [(Spread(1, [1], []), Spread(2, [1, 2], [])), (Spread(1, [1], []), Spread(1, [1], [0]))]:
            for first, second in ((one, other), (other, one)):
                with self.assertRaises(NotFitting):
                    by_rounds(first, second, prices)
                with self.assertRaises(NotFitting):
                    by_store(first, second, prices, first.bits, 1)
                for banks, widest, bad in [(3, 1, 3), (3, -1, 3), (1, None, None)]:
                    with self.assertRaises(BadValue) as caught:
                        by_store(first, second, prices, banks, widest)
                    self.assertEqual(caught.exception.value, bad)


class WrongTest(unittest.TestCase):

    def test_wrong_values(self):
        grid, turned = Spread(4, [1, 2], [4, 8]), Spread(4, [4, 8], [1, 2])
        changes = [any_spread("one", grid), any_spread("other", turned),
                   Place("prices", Prices(3, 1, 1), themselves(objects() + [(3, 1, 1), grid]))]
        banks = Place("banks", 2, themselves(no_wholes() + [0, 1, 5, 1 << 300]))
        calls = [(Prices, [whole("swap", 1), whole("transfer", 2), whole("beat", 3)]), (by_rounds, changes),
                 (by_store, [*changes, banks, whole("widest", 2)])]
        for function, places in calls:
            check_wrong(self, function, places)
            check_names(self, function, places)


if __name__ == "__main__":
    unittest.main()
