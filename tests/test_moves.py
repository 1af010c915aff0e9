import random
import time
import unittest

from laneswap.errors import BadValue, HasCopies, NotFitting, NotOneToOne
from laneswap.maps import Map, unit_map
from laneswap.moves import is_even, keeps_lanes, keeps_slots, move_between, split_move, uneven_parts
from laneswap.spreads import Spread
from tests.drawing import all_undoable, drawn_moves, drawn_plain, drawn_undoable, places_of
from tests.wrong import any_spread, below, check_names, check_wrong, told_map

QUESTIONS = (keeps_lanes, keeps_slots, is_even, uneven_parts, split_move)


def lane_kept(move, slots):
    return all([move(place) >> slots == place >> slots for place in range(2 ** move.source)])


def slot_kept(move, slots):
    return all([move(place) % 2 ** slots == place % 2 ** slots for place in range(2 ** move.source)])


def even(move, slots):
    return all([move(place) % 2 ** slots == move(place % 2 ** slots) % 2 ** slots for place in range(2 ** move.source)])


def split_by_all(bits, slots):
    """For each move, by its columns, the fewest uneven slot moves of all splits of it."""
    moves = all_undoable(bits)
    slot_moves = [move for move in moves if lane_kept(move, slots)]
    fewest = {}
    for middle in [move for move in moves if slot_kept(move, slots)]:
        for first in slot_moves:
            for last in slot_moves:
                uneven = 2 - even(first, slots) - even(last, slots)
                columns = (last * middle * first).columns
                fewest[columns] = min(uneven, fewest.get(columns, 2))
    return fewest


class MoveTest(unittest.TestCase):

    def test_move_between(self):
        draw = random.Random(1)
        for _ in range(150):
            slots, lanes = draw.randrange(4), draw.randrange(4)
            one = drawn_plain(draw, slots, lanes)
            other = drawn_plain(draw, slots, lanes)
            move = move_between(one, other)
            self.assertIsInstance(move, Map)
            self.assertEqual(other.placing() * move, one.placing())
            after = places_of(other)
            for (slot, lane), entry in places_of(one).items():
                image = move(slot + 2 ** slots * lane)
                self.assertEqual(after[image % 2 ** slots, image >> slots], entry)
            self.assertEqual(move_between(one, one), unit_map(slots + lanes))

    def test_no_move(self):
        plain = Spread(2, [1], [2])
        unlike = [(plain, Spread(3, [1, 2], [4])), (plain, Spread(3, [1], [2, 4])), (plain, Spread(2, [1, 2], [])),
                  (Spread(2, [1, 2], [0]), Spread(2, [1], [2])), (Spread(1, [1, 1], []), Spread(1, [], [1])),
                  (Spread(2, [1, 2], [0]), Spread(2, [1, 2], [0, 0]))]
        for one, other in unlike:
            for first, second in ((one, other), (other, one)):
                with self.assertRaises(NotFitting):
                    move_between(first, second)
        for one, other in [(Spread(2, [1, 2], [0]), Spread(2, [1, 2], [3])), (Spread(0, [0], []), Spread(0, [0], [])),
                           (Spread(1, [], [1, 0]), Spread(1, [], [1, 1]))]:
            with self.assertRaises(HasCopies):
                move_between(one, other)

    def test_hundred_bits(self):
        draw = random.Random(2)
        start = time.monotonic()
        one, other = drawn_plain(draw, 40, 60), drawn_plain(draw, 40, 60)
        self.assertEqual(other.placing() * move_between(one, other), one.placing())
        self.assertLess(time.monotonic() - start, 10)

    def test_all_moves_of_few_bits(self):
        for bits in range(4):
            for slots in range(bits + 1):
                fewest = split_by_all(bits, slots)
                for move in all_undoable(bits):
                    self.assertEqual(uneven_parts(move, slots), fewest[move.columns])
                    self.check_kinds(move, slots)
                    self.check_split(move, slots)

    def test_drawn_moves_of_few_bits(self):
        draw = random.Random(3)
        found = {0: 0, 1: 0, 2: 0}
        for slots, lanes in [(2, 2), (1, 3), (3, 1), (2, 3), (3, 2), (0, 4), (4, 0)]:
            for _ in range(12):
                for move in drawn_moves(draw, slots, lanes):
                    self.check_kinds(move, slots)
                    self.check_split(move, slots)
                    found[uneven_parts(move, slots)] += 1
        self.assertGreater(min(found.values()), 20)

    def test_one_uneven_part_is_not_enough(self):
        draw = random.Random(4)
        moves = all_undoable(4)
        slot_moves = [move for move in moves if lane_kept(move, 2)]
        backs = [~move for move in slot_moves]
        found = {0: 0, 1: 0, 2: 0}
        for move in [*draw.sample(moves, 40), *drawn_moves(draw, 2, 2)]:
            # An even slot move at one end may as well be done at the other one.
            ends = [slot_kept(back * move, 2) or slot_kept(move * back, 2) for back in backs]
            many = 0 if even(move, 2) else 1 if any(ends) else 2
            self.assertEqual(uneven_parts(move, 2), many)
            found[many] += 1
        self.assertGreater(min(found.values()), 1)

    def check_kinds(self, move, slots):
        self.assertIs(keeps_lanes(move, slots), lane_kept(move, slots))
        self.assertIs(keeps_slots(move, slots), slot_kept(move, slots))
        self.assertIs(is_even(move, slots), even(move, slots))

    def check_split(self, move, slots):
        first, middle, last = parts = split_move(move, slots)
        self.assertIsInstance(parts, tuple)
        self.assertTrue(lane_kept(first, slots) and slot_kept(middle, slots) and lane_kept(last, slots))
        for place in range(2 ** move.source):
            self.assertEqual(last(middle(first(place))), move(place))
        self.assertEqual(last * middle * first, move)
        self.assertEqual(2 - even(first, slots) - even(last, slots), uneven_parts(move, slots))

    def test_drawn_moves_of_many_bits(self):
        draw = random.Random(5)
        found = {0: 0, 1: 0, 2: 0}
        start = time.monotonic()
        for slots, lanes in [(30, 50), (50, 30), (40, 40), (50, 50), (33, 47), (0, 50), (50, 0)]:
            for move in drawn_moves(draw, slots, lanes):
                first, middle, last = split_move(move, slots)
                self.assertEqual(last * middle * first, move)
                for _ in range(5):
                    place = draw.randrange(2 ** (slots + lanes))
                    self.assertEqual(first(place) >> slots, place >> slots)
                    self.assertEqual(middle(place) % 2 ** slots, place % 2 ** slots)
                    self.assertEqual(last(place) >> slots, place >> slots)
                    self.assertEqual(last(middle(first(place))), move(place))
                self.assertTrue(keeps_lanes(first, slots) and keeps_slots(middle, slots) and keeps_lanes(last, slots))
                uneven = [part for part in (first, last) if not is_even(part, slots)]
                self.assertEqual(uneven_parts(move, slots), len(uneven))
                found[len(uneven)] += 1
        self.assertGreater(min(found.values()), 5)
        self.assertLess(time.monotonic() - start, 60)

    def test_how_many_parts_are_uneven_at_many_bits(self):
        draw = random.Random(6)
        bits = 80
        for slots in (30, 40, 50):
            move = drawn_undoable(draw, bits)
            within = Map(slots, [column % 2 ** slots for column in move.columns[:slots]])
            lanes = Map(bits - slots, [column >> slots for column in move.columns[slots:]])
            expected = 1 if within.rank() == slots or lanes.rank() == bits - slots else 2
            self.assertEqual(uneven_parts(move, slots), expected)
        swap = Map(80, [1 << (bit + 40) % 80 for bit in range(80)])
        self.assertEqual(uneven_parts(swap, 40), 2)
        self.assertEqual(uneven_parts(Map(2, [2, 1]), 1), 2)
        self.assertEqual([uneven_parts(Map(2, columns), 1) for columns in ([3, 1], [2, 3], [1, 3], [3, 2])], [1, 1, 1, 0])

    def test_moves_without_bits(self):
        nothing = Map(0, [])
        self.assertEqual([ask(nothing, 0) for ask in QUESTIONS], [True, True, True, 0, (nothing,) * 3])
        turn = Map(2, [2, 1])
        self.assertEqual([ask(turn, 0) for ask in QUESTIONS[:4]], [False, True, True, 0])
        self.assertEqual([ask(turn, 2) for ask in QUESTIONS[:4]], [True, False, True, 0])
        for slots in (0, 1, 2):
            self.assertEqual([ask(unit_map(2), slots) for ask in QUESTIONS[:4]], [True, True, True, 0])


class WrongTest(unittest.TestCase):

    def test_wrong_values(self):
        move = Map(3, [2, 1, 5])
        moves = told_map("move", move, [Map(2, [1, 2, 3]), Map(3, [1, 2]), Map(0, [0]), Map(1, [])])
        for ask in QUESTIONS:
            check_wrong(self, ask, [moves, below("slots", 1, 4)])
            check_names(self, ask, [moves, below("slots", 1, 4)])
        one, other = Spread(3, [1], [2, 4]), Spread(3, [1], [4, 2])
        places = [any_spread("one", one), any_spread("other", other)]
        check_wrong(self, move_between, places)
        check_names(self, move_between, places)

    def test_not_one_to_one(self):
        for ask in QUESTIONS:
            for columns, word in (([1, 1, 2], 3), ([0, 1, 2], 1), ([1, 2, 3], 7), ([1, 0, 0], 2)):
                for slots in range(4):
                    with self.assertRaises(NotOneToOne) as caught:
                        ask(Map(3, columns), slots)
                    self.assertEqual(caught.exception.word, word)
            with self.assertRaises(BadValue) as caught:
                ask(Map(3, [1, 1, 2]), 4)
            self.assertEqual(caught.exception.value, 4)


if __name__ == "__main__":
    unittest.main()
