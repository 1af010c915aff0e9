import random
import time
import unittest
from itertools import combinations

from laneswap.errors import BadValue, NotFitting, NotWanted
from laneswap.hops import HopPlan, fewest_hops, plan_hops
from laneswap.moves import move_between
from laneswap.spaces import Space
from laneswap.spreads import Spread
from laneswap.stages import fewest_stages
from tests.drawing import drawn_changes, drawn_far, drawn_plain, held_by
from tests.wrong import any_spread, check_names, check_wrong, word


def hopped(start, steps):
    """What each lane holds behind hops with these steps, if it takes all that it can."""
    held = [set(entries) for entries in start]
    for step in steps:
        held = [held[lane] | held[lane ^ step] for lane in range(len(held))]
    return held


def is_enough(one, other, steps):
    return all([wanted <= held for wanted, held in zip(held_by(other), hopped(held_by(one), steps))])


class FewestTest(unittest.TestCase):

    def test_no_fewer_are_enough(self):
        numbers = {}
        for one, other in drawn_changes(1, 250):
            lanes = len(one.lanes)
            many = fewest_hops(one, other)
            numbers[many] = numbers.get(many, 0) + 1
            self.assertTrue(is_enough(one, other, plan_hops(one, other).steps))
            # The order of the hops does not matter, nor that of their steps.
            if many and lanes <= 4:
                for steps in combinations(range(2 ** lanes), many - 1):
                    self.assertFalse(is_enough(one, other, steps))
        self.assertGreater(min(numbers[0], numbers[1], numbers[2]), 10)

    def test_sums_of_givers_and_takers(self):
        for one, other in drawn_changes(2, 200):
            start, wanted = held_by(one), held_by(other)
            lanes = range(len(start))
            sums = [taker ^ giver for taker in lanes for giver in lanes if start[giver] & wanted[taker]]
            space = Space(len(one.lanes), sums)
            self.assertEqual(len(set(sums)), 2 ** space.dimension)
            twins = [lane for lane in lanes if start[lane] == start[0]]
            self.assertEqual(2 ** fewest_hops(one, other) * len(twins), len(set(sums)))

    def test_as_many_as_stages(self):
        draw = random.Random(3)
        for slots, lanes in [(1, 2), (2, 2), (3, 1), (0, 3), (40, 60), (70, 30)]:
            one, other = drawn_plain(draw, slots, lanes), drawn_plain(draw, slots, lanes)
            self.assertEqual(fewest_hops(one, other), fewest_stages(move_between(one, other), slots))

    def test_nothing_to_do(self):
        for made in (Spread(0, [], []), Spread(2, [1], [2]), Spread(2, [1, 2], [0, 3]), Spread(2, [1, 2], [])):
            plan = plan_hops(made, made)
            self.assertEqual((fewest_hops(made, made), plan.steps), (0, ()))
            for lane, entries in enumerate(held_by(made)):
                for entry in entries:
                    self.assertEqual(plan.route(lane, entry), (lane,))

    def test_not_fitting(self):
        for one, other in [(Spread(1, [1], []), Spread(2, [1, 2], [])), (Spread(1, [1], []), Spread(1, [1], [0]))]:
            for first, second in ((one, other), (other, one)):
                for call in (fewest_hops, plan_hops):
                    with self.assertRaises(NotFitting):
                        call(first, second)

    def test_unlike_numbers_of_slots_fit(self):
        one, other = Spread(2, [1], [2, 0]), Spread(2, [1, 2, 3], [0, 1])
        self.assertEqual(fewest_hops(one, other), 1)
        self.assertEqual(fewest_hops(other, one), 0)
        self.assertEqual(plan_hops(other, one).route(3, 2), (3,))


class RouteTest(unittest.TestCase):

    def test_routes_are_walked(self):
        unwanted = 0
        for one, other in drawn_changes(4, 200):
            plan = plan_hops(one, other)
            self.assertIsInstance(plan, HopPlan)
            self.assertIsInstance(plan.steps, tuple)
            self.assertEqual(len(plan.steps), fewest_hops(one, other))
            start, wanted = held_by(one), held_by(other)
            for lane in range(len(start)):
                for entry in range(2 ** one.bits):
                    if entry in wanted[lane]:
                        self.walk(plan, lane, entry, start)
                    else:
                        unwanted += 1
                        with self.assertRaises(NotWanted):
                            plan.route(lane, entry)
        self.assertGreater(unwanted, 100)

    def walk(self, plan, lane, entry, start):
        route = plan.route(lane, entry)
        self.assertIsInstance(route, tuple)
        self.assertEqual(len(route), len(plan.steps) + 1)
        self.assertIn(entry, start[route[0]])
        for at, step in enumerate(plan.steps):
            self.assertIn(route[at + 1], (route[at], route[at] ^ step))
            self.assertIn(entry, hopped(start, plan.steps[:at + 1])[route[at + 1]])
        self.assertEqual(route[-1], lane)

    def test_hundred_bits(self):
        draw = random.Random(5)
        start = time.monotonic()
        for slots, lanes, others in [(60, 60, 70), (99, 20, 90), (10, 100, 10), (0, 130, 0), (120, 0, 140)]:
            one = drawn_far(draw, 100, slots, lanes)
            for other in (drawn_far(draw, 100, others, lanes), self.near(draw, one)):
                plan = plan_hops(one, other)
                self.assertEqual(len(plan.steps), fewest_hops(one, other))
                for _ in range(10):
                    lane = draw.getrandbits(lanes)
                    self.check_far_route(plan, one, other, lane, draw.getrandbits(len(other.slots)))
        self.assertLess(time.monotonic() - start, 60)

    def near(self, draw, one):
        """A Spread that is like one but for some lane words."""
        while True:
            lanes = [word if draw.randrange(9) else word ^ draw.choice(one.lanes) for word in one.lanes]
            if Space(100, [*one.slots, *lanes]).dimension == 100:
                return Spread(100, one.slots, lanes)

    def check_far_route(self, plan, one, other, lane, slot):
        entry = other.entry(slot, lane)
        route = plan.route(lane, entry)
        self.assertIsNotNone(one.slot_of(entry, route[0]))
        self.assertEqual((len(route), route[-1]), (len(plan.steps) + 1, lane))
        for at, step in enumerate(plan.steps):
            self.assertIn(route[at] ^ route[at + 1], (0, step))
        if other.slot_of(entry ^ 1 << 99, lane) is None:
            with self.assertRaises(NotWanted):
                plan.route(lane, entry ^ 1 << 99)


class WrongTest(unittest.TestCase):

    def test_wrong_values(self):
        one, other = Spread(3, [1], [2, 4]), Spread(3, [1], [4, 2])
        spreads = [any_spread("one", one), any_spread("other", other)]
        for function, places in [(fewest_hops, spreads), (plan_hops, spreads),
                                 (plan_hops(one, other).route, [word("lane", 1, 2), word("entry", 4, 3)])]:
            check_wrong(self, function, places)
            check_names(self, function, places)

    def test_wrong_values_ahead_of_other_errors(self):
        plan = plan_hops(Spread(3, [1], [2, 4]), Spread(3, [1], [4, 2]))
        for lane, entry, bad in [(4, 2, 4), (1, 8, 8), (-1, 2, -1), (0, True, True)]:
            with self.assertRaises(BadValue) as caught:
                plan.route(lane, entry)
            self.assertIs(caught.exception.value, bad)
        with self.assertRaises(NotWanted):
            plan.route(1, 2)


if __name__ == "__main__":
    unittest.main()
