import random
import unittest
from unittest import mock

from laneswap import sweeps
from laneswap.families import Family, bands_of
from laneswap.sizes import Size
from laneswap.sweeps import rank_line, short_line
from tests.drawing import drawn_family, drawn_tracks

NEAR = Family([("a", 0)], [("a", 0)], [("line", "a", "a", shift) for shift in (-1, 0, 1)])


class SweepsTest(unittest.TestCase):

    def test_short_lines_of_their_values(self):
        draw = random.Random(1)
        for period in (1, 2, 7, 30, 59, 60):
            for start in (0, 1, 40, 60):
                first = [draw.randrange(9) for _ in range(start)]
                cycle = [draw.randrange(9) for _ in range(period)]
                size = Size(first, cycle, draw.randrange(-1, 5))
                self.assertEqual(short_line([size(n) for n in range(400)]), size)

    def test_values_of_no_short_line(self):
        draw = random.Random(2)
        for line in (Size([], list(range(60)) + [0], 61), Size([1] * 61, [0], 0), Size([], [0] * 200 + [1], 3)):
            self.assertIsNone(short_line([line(n) for n in range(800)]))
        self.assertIsNone(short_line([draw.randrange(9) for _ in range(800)]))
        self.assertIsNone(short_line([n * n for n in range(800)]))

    def test_sweeps_that_come_round_behind_their_short_line(self):
        draw = random.Random(3)
        families = [NEAR] + [drawn_family(draw, drawn_tracks(draw), drawn_tracks(draw), draw.randrange(9)) for _ in range(60)]
        expected = [rank_line(bands_of(family)) for family in families]
        told = []
        for family, size in zip(families, expected):
            with mock.patch.object(sweeps, "LONG_SWEEP", 7), mock.patch.object(sweeps, "LONGEST", 4):
                with mock.patch.object(sweeps, "short_line", lambda values: told.append(short_line(values)) or told[-1]):
                    self.assertEqual(rank_line(bands_of(family)), size)
        self.assertIn(None, told)
        self.assertGreater(len([line for line in told if line is not None]), 10)


if __name__ == "__main__":
    unittest.main()
