import random
import time
import unittest

from laneswap.errors import BadValue, NotOneToOne, OddStep
from laneswap.maps import Map, unit_map
from laneswap.moves import keeps_lanes
from laneswap.spaces import Space
from laneswap.stages import Stage, StagePlan, drift, drifting, fewest_stages, plan_stages
from tests.drawing import all_undoable, drawn_moves
from tests.wrong import Place, below, check_names, check_wrong, themselves, told_map, whole, word

QUESTIONS = (drift, fewest_stages, drifting, plan_stages)


def odd_ones(one, other):
    return bin(one & other).count("1") % 2 == 1


def all_stages(slots, lanes):
    found = []
    for step in range(1, 2 ** lanes):
        for test in range(2 ** (slots + lanes)):
            if not odd_ones(step << slots, test):
                found.append(Stage(slots, lanes, step, test))
    return found


def stages_by_all(bits, slots):
    """For each move, by its columns, the fewest stages with slot moves ahead of them and behind them."""
    moves = all_undoable(bits)
    slot_moves = [move for move in moves if keeps_lanes(move, slots)]
    exchanges = [stage.moving() for stage in all_stages(slots, bits - slots)]
    fewest, reached, many = {}, slot_moves, 0
    while reached:
        ahead = []
        for move in reached:
            for last in slot_moves:
                fewest.setdefault((last * move).columns, many)
        for columns in [(exchange * move).columns for move in reached for exchange in exchanges]:
            if columns not in fewest and columns not in ahead:
                ahead.append(columns)
        reached, many = [Map(bits, columns) for columns in ahead], many + 1
    return fewest


class StageTest(unittest.TestCase):

    def test_all_small_stages(self):
        for slots, lanes in [(0, 1), (0, 2), (1, 1), (2, 1), (1, 2), (0, 3)]:
            stages = all_stages(slots, lanes)
            for stage in stages:
                places = list(range(2 ** (slots + lanes)))
                images = [stage.place(place) for place in places]
                for place, image in zip(places, images):
                    moved = stage.step << slots if odd_ones(place, stage.test) else 0
                    self.assertEqual(image, place ^ moved)
                    self.assertEqual(stage.place(image), place)
                self.assertEqual([stage.moving()(place) for place in places], images)
                self.assertEqual(stage.moving() * stage.moving(), unit_map(slots + lanes))
            self.assertEqual(len(stages), (2 ** lanes - 1) * 2 ** (slots + lanes - 1))

    def test_attributes(self):
        stage = Stage(3, 4, 5, 66)
        self.assertEqual((stage.slot_bits, stage.lane_bits, stage.step, stage.test), (3, 4, 5, 66))
        self.assertEqual([stage.place(0), stage.place(2), stage.place(66), stage.place(5)], [0, 2 ^ 40, 66, 5])
        self.assertTrue(stage == stage and stage != Stage(3, 4, 5, 66))

    def test_steps_that_meet_the_test_oddly(self):
        odds = 0
        for slots, lanes in [(0, 1), (0, 3), (1, 2), (2, 2)]:
            for step in range(1, 2 ** lanes):
                for test in range(2 ** (slots + lanes)):
                    if odd_ones(step << slots, test):
                        odds += 1
                        with self.assertRaises(OddStep):
                            Stage(slots, lanes, step, test)
        self.assertGreater(odds, 30)

    def test_step_0_and_no_lanes(self):
        for slots, lanes in [(0, 0), (2, 0), (0, 2), (2, 1)]:
            for test in (0, 1, 1 << 9):
                with self.assertRaises(BadValue) as caught:
                    Stage(slots, lanes, 0, test)
                self.assertIs(caught.exception.value, 0)
        with self.assertRaises(BadValue) as caught:
            Stage(3, 0, 1, 0)
        self.assertIs(caught.exception.value, 1)

    def test_hundred_bits(self):
        stage = Stage(40, 60, 1 << 59, (1 << 98) + 1)
        self.assertEqual(stage.place((1 << 98) + 2), (1 << 98) + 2 ^ 1 << 99)
        self.assertEqual(stage.moving().columns[98], (1 << 98) ^ (1 << 99))
        self.assertEqual(stage.moving().rank(), 100)


class DriftTest(unittest.TestCase):

    def test_drifts(self):
        draw = random.Random(1)
        for slots, lanes in [(0, 0), (0, 2), (2, 0), (1, 1), (2, 1), (1, 2), (2, 3)]:
            for move in drawn_moves(draw, slots, lanes):
                found = drift(move, slots)
                self.assertEqual((found.source, found.goal), (slots + lanes, lanes))
                sums = []
                for place in range(2 ** (slots + lanes)):
                    self.assertEqual(found(place), (place >> slots) ^ (move(place) >> slots))
                    sums.append(found(place))
                self.assertEqual(2 ** fewest_stages(move, slots), len(set(sums)))
                self.check_drifting(move, slots)

    def check_drifting(self, move, slots):
        places = drifting(move, slots)
        lanes = move.source - slots
        self.assertIsInstance(places, tuple)
        drifts = [(place >> slots) ^ (move(place) >> slots) for place in places]
        self.assertEqual(Space(lanes, drifts).dimension, len(places))
        self.assertEqual(len(places), fewest_stages(move, slots))

    def test_fewest_stages_of_all_moves_of_few_bits(self):
        for bits in range(4):
            for slots in range(bits + 1):
                fewest = stages_by_all(bits, slots)
                for move in all_undoable(bits):
                    self.assertEqual(fewest_stages(move, slots), fewest[move.columns])

    def test_nothing_to_do(self):
        for bits in (0, 1, 3):
            for slots in range(bits + 1):
                plan = plan_stages(unit_map(bits), slots)
                self.assertEqual((fewest_stages(unit_map(bits), slots), drifting(unit_map(bits), slots)), (0, ()))
                self.assertEqual(plan.stages, ())
                self.assertEqual(plan.last * plan.first, unit_map(bits))
        self.assertEqual(fewest_stages(Map(2, [2, 1]), 2), 0)
        self.assertEqual(fewest_stages(Map(2, [2, 1]), 1), 1)
        self.assertEqual(fewest_stages(Map(2, [2, 1]), 0), 1)
        self.assertEqual(fewest_stages(Map(2, [2, 3]), 0), 2)


class PlanTest(unittest.TestCase):

    def test_all_moves_of_few_bits(self):
        for bits in range(4):
            for slots in range(bits + 1):
                for move in all_undoable(bits):
                    self.check_plan(move, slots, range(2 ** bits))

    def test_drawn_moves_of_few_bits(self):
        draw = random.Random(2)
        for slots, lanes in [(2, 2), (1, 3), (3, 1), (2, 3), (0, 4), (4, 0), (0, 6)]:
            for _ in range(6):
                for move in drawn_moves(draw, slots, lanes):
                    self.check_plan(move, slots, range(2 ** (slots + lanes)))

    def test_drawn_moves_of_many_bits(self):
        draw = random.Random(3)
        start = time.monotonic()
        numbers = []
        for slots, lanes in [(30, 50), (50, 30), (44, 36), (50, 50), (0, 100)]:
            for move in drawn_moves(draw, slots, lanes)[:7:2] + drawn_moves(draw, slots, lanes)[-2:]:
                bits = slots + lanes
                places = [1 << bit for bit in range(bits)] + [draw.randrange(2 ** bits) for _ in range(10)]
                self.check_plan(move, slots, places)
                self.check_drifting(move, slots)
                numbers.append(fewest_stages(move, slots))
        self.assertGreater(max(numbers), 90)
        self.assertEqual(min(numbers), 0)
        self.assertLess(time.monotonic() - start, 120)

    check_drifting = DriftTest.check_drifting

    def check_plan(self, move, slots, places):
        """The stages lead each of the places to its image, and there are as many as the rank of the drift."""
        plan = plan_stages(move, slots)
        bits = move.source
        self.assertIsInstance(plan, StagePlan)
        self.assertIsInstance(plan.stages, tuple)
        drifts = [(column ^ 1 << bit) >> slots for bit, column in enumerate(move.columns)]
        self.assertEqual(len(plan.stages), Space(bits - slots, drifts).dimension)
        self.assertEqual(fewest_stages(move, slots), len(plan.stages))
        self.assertTrue(keeps_lanes(plan.first, slots) and keeps_lanes(plan.last, slots))
        for stage in plan.stages:
            self.assertEqual((stage.slot_bits, stage.lane_bits), (slots, bits - slots))
            self.assertNotEqual(stage.step, 0)
            self.assertFalse(odd_ones(stage.step << slots, stage.test))
        for place in places:
            word = plan.first(place)
            for stage in plan.stages:
                word = stage.place(word)
            self.assertEqual(plan.last(word), move(place))

    def test_never_more_than_were_put_in(self):
        draw = random.Random(4)
        for slots, lanes in [(1, 2), (2, 2), (2, 4), (30, 30), (45, 50)]:
            for many in range(6):
                move = drawn_moves(draw, slots, lanes)[2]
                self.assertEqual(len(plan_stages(move, slots).stages), 0)
                for _ in range(many):
                    move = self.drawn_stage(draw, slots, lanes).moving() * move
                move = drawn_moves(draw, slots, lanes)[1] * move
                plan = plan_stages(move, slots)
                self.assertLessEqual(len(plan.stages), many)
                self.check_plan(move, slots, [draw.randrange(2 ** (slots + lanes)) for _ in range(20)])
                if many == 5 and lanes == 50:
                    self.assertEqual(len(plan.stages), 5)

    def drawn_stage(self, draw, slots, lanes):
        while True:
            step, test = draw.randrange(1, 2 ** lanes), draw.randrange(2 ** (slots + lanes))
            if not odd_ones(step << slots, test):
                return Stage(slots, lanes, step, test)


class WrongTest(unittest.TestCase):

    def test_wrong_stages(self):
        step = word("step", 2, 2)
        step.wrong.append((0, 0))
        places = [whole("slot_bits", 1), whole("lane_bits", 2), step, word("test", 3, 3)]
        check_wrong(self, Stage, places)
        stage = Stage(1, 2, 2, 3)
        check_wrong(self, stage.place, [word("word", 5, 3)])
        check_names(self, stage.place, [word("word", 5, 3)])

    def test_wrong_values_ahead_of_odd_steps(self):
        with self.assertRaises(OddStep):
            Stage(1, 2, 2, 4)
        for values, bad in [((1, 2, 2, 8), 8), ((1, 1, 2, 4), 2), ((0, 2, 2, 4), 4), ((-1, 2, 2, 4), -1)]:
            with self.assertRaises(BadValue) as caught:
                Stage(*values)
            self.assertEqual(caught.exception.value, bad)

    def test_wrong_moves(self):
        move = Map(3, [2, 1, 5])
        places = [told_map("move", move, [Map(2, [1, 2, 3]), Map(3, [1, 2]), Map(0, [0])]), below("slots", 1, 4)]
        for ask in QUESTIONS:
            check_wrong(self, ask, places)
            check_names(self, ask, places)
            with self.assertRaises(NotOneToOne) as caught:
                ask(Map(3, [1, 1, 2]), 3)
            self.assertEqual(caught.exception.word, 3)
            check_wrong(self, ask, [Place("move", Map(3, [1, 1, 2]), []), Place("slots", 1, themselves([4, -1, None]))])


if __name__ == "__main__":
    unittest.main()
