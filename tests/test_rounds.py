import random
import time
import unittest

from laneswap.errors import BadValue, NotFitting
from laneswap.rounds import RoundPlan, fewest_rounds, lacks, plan_rounds, short_lane
from laneswap.spaces import Space
from laneswap.spreads import Spread
from tests.drawing import drawn_changes, drawn_spread, held_by
from tests.wrong import any_spread, below, check_names, check_wrong, word


class LacksTest(unittest.TestCase):

    def test_what_lanes_lack(self):
        kept = {True: 0, False: 0}
        for one, other in drawn_changes(1, 400):
            lacked = [len(wanted - held) for held, wanted in zip(held_by(one), held_by(other))]
            self.assertEqual([lacks(one, other, lane) for lane in range(len(lacked))], lacked)
            self.assertEqual(fewest_rounds(one, other), max(lacked))
            self.assertEqual(short_lane(one, other), lacked.index(max(lacked)))
            self.assertEqual(plan_rounds(one, other).rounds, max(lacked))
            kept[all([wanted & held for held, wanted in zip(held_by(one), held_by(other))])] += 1
        self.assertGreater(min(kept.values()), 50)

    def test_nothing_to_do(self):
        for made in (Spread(0, [], []), Spread(2, [1], [2]), Spread(2, [1, 2], [0, 3])):
            self.assertEqual((fewest_rounds(made, made), short_lane(made, made), lacks(made, made, 0)), (0, 0, 0))
            plan = plan_rounds(made, made)
            self.assertEqual((plan.rounds, plan.when(0, 0)), (0, None))
            with self.assertRaises(BadValue):
                plan.take(0, 0)

    def test_no_lane_bits(self):
        one, other = Spread(2, [1, 2], []), Spread(2, [2, 3, 0], [])
        self.assertEqual((fewest_rounds(one, other), plan_rounds(one, other).rounds), (0, 0))

    def test_some_lanes_keep_nothing(self):
        one, other = Spread(3, [1], [2, 4]), Spread(3, [1], [4, 2])
        self.assertEqual([lacks(one, other, lane) for lane in range(4)], [0, 2, 2, 0])
        self.assertEqual((fewest_rounds(one, other), short_lane(one, other)), (2, 1))

    def test_not_fitting(self):
        for one, other in [(Spread(1, [1], []), Spread(2, [1, 2], [])), (Spread(1, [1], []), Spread(1, [1], [0]))]:
            for first, second in ((one, other), (other, one)):
                for call in (lambda: lacks(first, second, 0), lambda: fewest_rounds(first, second),
                             lambda: short_lane(first, second), lambda: plan_rounds(first, second)):
                    with self.assertRaises(NotFitting):
                        call()

    def test_unlike_numbers_of_slot_words_fit(self):
        self.assertEqual(fewest_rounds(Spread(1, [], [1]), Spread(1, [1, 1], [0])), 1)


class PlanTest(unittest.TestCase):

    def test_played(self):
        kinds = {}
        for one, other in drawn_changes(2, 500):
            self.play(one, other)
            kind = (one.copies().dimension > 0, one.twins().dimension > 0, fewest_rounds(one, other) > 0)
            kinds[kind] = kinds.get(kind, 0) + 1
        for copied, twins in ((False, False), (True, False), (True, True)):
            self.assertGreater(kinds[copied, twins, True], 10)

    def test_played_with_four_bits(self):
        for one, other in drawn_changes(3, 60, 4):
            self.play(one, other)

    def play(self, one, other):
        """Plays all rounds of a plan, with all lanes."""
        plan = plan_rounds(one, other)
        self.assertIsInstance(plan, RoundPlan)
        start, wanted = held_by(one), held_by(other)
        lanes = range(len(start))
        held = [set(entries) for entries in start]
        times = {}
        for number in range(plan.rounds):
            shown = {}
            for lane in lanes:
                taken = plan.take(number, lane)
                if taken is not None:
                    self.assertIsInstance(taken, tuple)
                    giver, entry = taken
                    self.assertIn(giver, lanes)
                    self.assertIn(entry, start[giver])
                    self.assertEqual(shown.setdefault(giver, entry), entry)
                    self.assertIn(entry, wanted[lane])
                    self.assertNotIn((lane, entry), times)
                    times[lane, entry] = number
                    held[lane].add(entry)
        for lane in lanes:
            self.assertLessEqual(wanted[lane], held[lane])
            for entry in range(2 ** one.bits):
                self.assertEqual(plan.when(lane, entry), times.get((lane, entry)))

    def test_equal_plans_for_equal_spreads(self):
        for one, other in drawn_changes(4, 20):
            plan, again = plan_rounds(one, other), plan_rounds(Spread(one.bits, one.slots, one.lanes), other)
            self.assertEqual(plan.rounds, again.rounds)
            for number in range(plan.rounds):
                for lane in range(2 ** len(one.lanes)):
                    self.assertEqual(plan.take(number, lane), again.take(number, lane))
            self.assertTrue(plan == plan and plan != again)

    def test_a_hundred_bits(self):
        draw = random.Random(5)
        start = time.monotonic()
        found = {"each lane keeps some": 0, "some lane keeps nothing": 0}
        for slots, wanted_slots, lanes in [(50, 50, 50), (60, 50, 55), (30, 90, 80), (40, 40, 100), (90, 90, 60),
                                           (200, 3, 200), (99, 100, 1), (0, 0, 100), (0, 100, 100)]:
            one = drawn_spread(draw, 100, slots, max(lanes, 130 - slots))
            other = drawn_spread(draw, 100, max(wanted_slots, 130 - len(one.lanes)), len(one.lanes))
            for wanted in (other, self.kept(draw, one, other)):
                found[self.check_drawn(draw, one, wanted)] += 1
        self.assertGreater(min(found.values()), 3)
        self.assertLess(time.monotonic() - start, 60)

    def kept(self, draw, one, other):
        """A Spread, with as many slots of other as can be, in which each lane keeps some of what it holds in one."""
        lanes = [held ^ draw.choice([0, *one.slots]) for held in one.lanes]
        for many in range(len(other.slots) + 1):
            slots = [*one.slots[:many], *other.slots[many:]]
            if Space(one.bits, slots + lanes).dimension == one.bits:
                return Spread(one.bits, slots, lanes)
        return one

    def check_drawn(self, draw, one, other):
        """Some rounds, lanes and entries of a plan that is too long to be played."""
        plan = plan_rounds(one, other)
        lanes, fewest = len(one.lanes), fewest_rounds(one, other)
        dimension = other.slot_space().dimension
        kept = (one.slot_space() & other.slot_space()).dimension
        self.assertEqual(plan.rounds, fewest)
        self.assertIn(fewest, (2 ** dimension, 2 ** dimension - 2 ** kept))
        self.assertEqual(lacks(one, other, short_lane(one, other)), fewest)
        for _ in range(8):
            lane = draw.getrandbits(lanes)
            entry = other.entry(draw.getrandbits(len(other.slots)), lane)
            self.assertLessEqual(lacks(one, other, lane), fewest)
            number = plan.when(lane, entry)
            if number is None:
                self.assertIsNotNone(one.slot_of(entry, lane))
            else:
                self.assertEqual(plan.take(number, lane)[1], entry)
            if fewest:
                self.check_round(draw, plan, one, other, draw.randrange(fewest))
        return "some lane keeps nothing" if fewest == 2 ** dimension else "each lane keeps some"

    def check_round(self, draw, plan, one, other, number):
        """That in one round lanes that take from the same lane take the same entry."""
        shown = {}
        lanes = len(one.lanes)
        near = draw.getrandbits(lanes)
        drawn = [near, *[near ^ twin for twin in one.twins().rows], *[draw.getrandbits(lanes) for _ in range(5)]]
        for lane in drawn:
            taken = plan.take(number, lane)
            if taken is not None:
                giver, entry = taken
                self.assertIsNotNone(one.slot_of(entry, giver))
                self.assertIsNotNone(other.slot_of(entry, lane))
                self.assertEqual(shown.setdefault(giver, entry), entry)
                self.assertEqual(plan.when(lane, entry), number)

    def test_all_entries_in_each_lane(self):
        # All lanes hold all entries, and each wants one of its own: nothing is to be taken; and the other way round.
        bits = 6
        one = Spread(bits, [1 << bit for bit in range(bits)], [0] * bits)
        other = Spread(bits, [], [1 << bit for bit in range(bits)])
        self.assertEqual(fewest_rounds(one, other), 0)
        self.play(one, other)
        self.play(other, one)
        self.play(other, Spread(bits, [1 << bit for bit in range(bits)], [3] * bits))

    def test_lanes_that_take_from_twins(self):
        one = Spread(3, [1, 2], [4, 0, 0])
        other = Spread(3, [4], [1, 2, 7])
        self.play(one, other)
        self.play(other, one)


class WrongTest(unittest.TestCase):

    def test_wrong_values(self):
        one, other = Spread(3, [1], [2, 4]), Spread(3, [1], [4, 2])
        spreads = [any_spread("one", one), any_spread("other", other)]
        plan = plan_rounds(one, other)
        calls = [
            (lacks, [*spreads, word("lane", 1, 2)]), (fewest_rounds, spreads), (short_lane, spreads),
            (plan_rounds, spreads), (plan.take, [below("number", 1, 2), word("lane", 3, 2)]),
            (plan.when, [word("lane", 3, 2), word("entry", 5, 3)]),
        ]
        for function, places in calls:
            check_wrong(self, function, places)
            check_names(self, function, places)

    def test_wrong_values_ahead_of_other_errors(self):
        one, other = Spread(3, [1], [2, 4]), Spread(3, [1], [4, 2, 1])
        check_wrong(self, lacks, [any_spread("one", one), any_spread("other", other), word("lane", 1, 2)])
        with self.assertRaises(BadValue) as caught:
            lacks(other, one, 8)
        self.assertEqual(caught.exception.value, 8)
        with self.assertRaises(NotFitting):
            lacks(other, one, 7)


if __name__ == "__main__":
    unittest.main()
