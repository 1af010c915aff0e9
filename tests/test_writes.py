import random
import time
import unittest

from laneswap.errors import BadValue
from laneswap.spaces import Space
from laneswap.spreads import Spread
from laneswap.writes import Writes, write_count
from tests.drawing import drawn_far, drawn_spreads
from tests.wrong import any_spread, below, check_names, check_wrong, word


class WritesTest(unittest.TestCase):

    def test_played(self):
        kinds = {}
        for spread in drawn_spreads(1, 500, 4):
            self.play(spread)
            kind = (spread.bits > len(spread.lanes), spread.twins().dimension > 0)
            kinds[kind] = kinds.get(kind, 0) + 1
        self.assertGreater(min(kinds.values()), 20)
        self.assertEqual(len(kinds), 4)

    def play(self, spread):
        """All writes of all lanes: each entry is written, in no more writes than its lanes need for as many entries."""
        writes = Writes(spread)
        lanes = 2 ** len(spread.lanes)
        self.assertEqual((writes.spread, writes.count), (spread, write_count(spread)))
        self.assertEqual(writes.count, -(-2 ** spread.bits // lanes))
        written = []
        for number in range(writes.count):
            for lane in range(lanes):
                slot = writes.slot_in(number, lane)
                self.assertTrue(0 <= slot < 2 ** len(spread.slots))
                written.append(spread.entry(slot, lane))
        self.assertEqual(sorted(set(written)), list(range(2 ** spread.bits)))

    def test_counts(self):
        told = [((0, [], []), 1), ((0, [0, 0], [0]), 1), ((1, [1], []), 2), ((1, [1], [0]), 1), ((2, [1, 2], [0]), 2),
                ((2, [1, 2], [0, 0]), 1), ((2, [1, 2], [0, 0, 0]), 1), ((3, [1], [2, 4]), 2), ((3, [], [1, 2, 4]), 1),
                ((3, [1, 2, 4], []), 8)]
        for (bits, slots, lanes), count in told:
            spread = Spread(bits, slots, lanes)
            self.assertEqual((write_count(spread), Writes(spread).count), (count, count))
            self.play(spread)

    def test_twins_write_unlike_entries(self):
        spread = Spread(4, [1, 2, 4, 8, 3], [0, 5, 5])
        self.assertEqual(write_count(spread), 2)
        self.play(spread)
        self.play(Spread(4, [1, 2, 4, 8, 3], [0, 5, 5, 1]))
        self.play(Spread(3, [3, 3, 0, 5], [4, 4, 1, 2, 0]))

    def test_eighty_bits_and_more(self):
        draw = random.Random(2)
        start = time.monotonic()
        for bits, slots, lanes in [(80, 40, 60), (80, 75, 5), (80, 80, 0), (80, 0, 80), (80, 10, 110), (100, 99, 99),
                                   (100, 90, 50), (100, 150, 50)]:
            spread = drawn_far(draw, bits, slots, lanes)
            writes = Writes(spread)
            self.assertEqual(writes.count, 2 ** max(0, bits - lanes))
            self.check_far(draw, spread, writes)
        self.assertLess(time.monotonic() - start, 60)

    def check_far(self, draw, spread, writes):
        """That the sums of entries that are written by two lanes in two writes tell all entries."""
        further = writes.count.bit_length() - 1
        lanes = len(spread.lanes)

        def written(number, lane):
            return spread.entry(writes.slot_in(number, lane), lane)

        first = written(0, 0)
        columns = [written(0, 1 << bit) ^ first for bit in range(lanes)]
        columns += [written(1 << bit, 0) ^ first for bit in range(further)]
        self.assertEqual(Space(spread.bits, columns).dimension, spread.bits)
        for _ in range(10):
            number, lane = draw.randrange(writes.count), draw.getrandbits(lanes)
            total = first
            for bit, column in enumerate(columns):
                total ^= column * ((lane | number << lanes) >> bit & 1)
            self.assertEqual(written(number, lane), total)


class WrongTest(unittest.TestCase):

    def test_wrong_values(self):
        spread = Spread(4, [1, 2], [4, 8])
        writes = Writes(spread)
        for function, places in [(write_count, [any_spread("spread", spread)]), (Writes, [any_spread("spread", spread)]),
                                 (writes.slot_in, [below("number", 1, 4), word("lane", 3, 2)])]:
            check_wrong(self, function, places)
            check_names(self, function, places)

    def test_only_one_write(self):
        writes = Writes(Spread(2, [1, 2], [1, 2, 0]))
        self.assertEqual(writes.count, 1)
        for number in (1, -1, 2):
            with self.assertRaises(BadValue) as caught:
                writes.slot_in(number, 8)
            self.assertEqual(caught.exception.value, number)


if __name__ == "__main__":
    unittest.main()
