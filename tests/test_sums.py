import random
import time
import unittest

from laneswap.errors import BadValue
from laneswap.maps import Map
from laneswap.spaces import Space, every
from laneswap.spreads import Spread
from laneswap.sums import SumPlan, partners, sum_rounds, sum_steps
from tests.drawing import drawn_far, drawn_spread, drawn_spreads, drawn_undoable, held_by
from tests.wrong import any_spread, below, check_names, check_wrong, space, word


def drawn_sums(seed, many, most=3):
    """Spreads of few bits, with and without copies, each with a Space of as many bits."""
    draw = random.Random(seed)
    for spread in drawn_spreads(seed, many, most):
        words = [draw.randrange(2 ** spread.bits) for _ in range(draw.randrange(spread.bits + 1))]
        yield spread, Space(spread.bits, words)


def expected_rounds(spread, space):
    """The fewest rounds by [22], its numbers told by listing."""
    held = held_by(spread)
    slots = held[0]
    met = [entry for entry in slots if entry in space]
    both = {one ^ other for one in slots for other in space.listed()}
    twins = [entries for entries in held if entries == held[0]]
    k, s, c = [(len(more) // len(less)).bit_length() - 1 for more, less in ((slots, met), (both, slots), (twins, [0]))]
    a = max(0, k - c)
    return 2 ** a - 2 ** (a - s) if a >= s else 2 ** a - 1 + s - a


def lots(spread, space):
    """For each lane what it holds at first: for the least entry of each coset, its entries of the coset."""
    found = []
    for entries in held_by(spread):
        values = {}
        for entry in entries:
            values.setdefault(space.least(entry), []).append(entry)
        found.append({coset: sorted(values[coset]) for coset in values})
    return found


class SumsTest(unittest.TestCase):

    def test_fewest_rounds(self):
        numbers = {}
        for spread, space in drawn_sums(1, 400, 4):
            many = sum_rounds(spread, space)
            self.assertEqual(many, expected_rounds(spread, space))
            numbers[many] = numbers.get(many, 0) + 1
        self.assertGreater(min(numbers[0], numbers[1], numbers[2]), 20)

    def test_told_numbers(self):
        def spread_of(k, s, c):
            """k slot bits of sums, s lane bits that are summed over, c lane bits of twins."""
            words = [1 << bit for bit in range(k + s)]
            return Spread(k + s, words[:k], words[k:] + [0] * c), Space(k + s, words[k:])
        told = [((0, 0, 0), 0), ((3, 0, 0), 0), ((0, 3, 0), 3), ((1, 3, 0), 3), ((2, 3, 0), 4), ((3, 3, 0), 7),
                ((3, 2, 0), 6), ((3, 1, 0), 4), ((3, 2, 1), 3), ((3, 2, 2), 2), ((3, 3, 2), 3), ((1, 2, 3), 2),
                ((5, 5, 1), 16), ((50, 50, 0), 2 ** 50 - 1), ((90, 10, 0), 2 ** 90 - 2 ** 80), ((20, 80, 20), 80),
                ((60, 40, 30), 2 ** 30 - 1 + 10)]
        for numbers, rounds in told:
            spread, space = spread_of(*numbers)
            self.assertEqual(sum_rounds(spread, space), rounds, numbers)
            self.assertEqual(SumPlan(spread, space).rounds, rounds, numbers)

    def test_partners(self):
        for spread, space in drawn_sums(2, 200, 4):
            team = partners(spread, space)
            self.assertIsInstance(team, Space)
            self.assertEqual(team.bits, len(spread.lanes))
            held = lots(spread, space)
            for lane in range(len(held)):
                self.assertEqual(lane in team, sorted(held[lane]) == sorted(held[0]))

    def test_sums_of_nothing_of_one_and_of_all(self):
        for spread in (Spread(2, [1], [2]), Spread(2, [1, 2], []), Spread(2, [], [1, 2]), Spread(2, [], [1, 2, 3])):
            self.assertEqual((sum_rounds(spread, Space(2, [])), sum_steps(spread, Space(2, []))), (0, ()))
            self.assertEqual(partners(spread, Space(2, [])), spread.twins())
            self.assertEqual(partners(spread, every(2)), every(len(spread.lanes)))
        self.assertEqual(sum_rounds(Spread(2, [1, 2], []), every(2)), 0)
        self.assertEqual(sum_rounds(Spread(2, [], [1, 2]), every(2)), 2)
        empty = Spread(0, [], [])
        self.assertEqual((sum_rounds(empty, every(0)), SumPlan(empty, every(0)).home(0)), (0, 0))
        self.assertEqual(sum_rounds(Spread(0, [], [0, 0]), every(0)), 0)


class StepsTest(unittest.TestCase):

    def test_steps_bring_all_sums(self):
        numbers = {}
        for spread, space in drawn_sums(3, 200, 4):
            steps = sum_steps(spread, space)
            self.assertIsInstance(steps, tuple)
            numbers[len(steps)] = numbers.get(len(steps), 0) + 1
            held = lots(spread, space)
            for step in steps:
                held = [self.joined(held[lane], held[lane ^ step]) for lane in range(len(held))]
            for values in held:
                for coset, entries in values.items():
                    self.assertEqual(sorted(entries), list(space.listed(coset)))
        self.assertGreater(min(numbers[0], numbers[1], numbers[2]), 10)

    def joined(self, own, taken):
        self.assertEqual(sorted(own), sorted(taken))
        return {coset: own[coset] + taken[coset] for coset in own}

    def test_no_fewer_are_enough(self):
        for spread, space in drawn_sums(4, 200, 4):
            steps = sum_steps(spread, space)
            # Behind j steps a lane has heard of at most 2 ** j lots of a sum.
            lot = len(lots(spread, space)[0][0])
            self.assertEqual(lot * 2 ** len(steps), 2 ** space.dimension)

    def test_hundred_bits(self):
        draw = random.Random(5)
        for slots, lanes, rows in [(60, 60, 50), (30, 90, 100), (90, 40, 20), (0, 120, 30), (130, 0, 40)]:
            spread = drawn_far(draw, 100, slots, lanes)
            space = Space(100, [draw.getrandbits(100) for _ in range(rows)] + list(spread.slots[:5]))
            steps, twins = sum_steps(spread, space), spread.twins()
            both = spread.slot_space() + space
            self.assertEqual(len(steps), both.dimension - spread.slot_space().dimension)
            for step in steps:
                self.assertIn(spread.entry(0, step), both)
            self.assertEqual(Space(lanes, [*steps, *twins.rows]), partners(spread, space))


class PlanTest(unittest.TestCase):

    def test_played(self):
        kinds = {}
        for spread, space in drawn_sums(6, 400):
            self.play(spread, space)
            kind = (spread.twins().dimension > 0, sum_rounds(spread, space))
            kinds[kind] = kinds.get(kind, 0) + 1
        for twins in (False, True):
            for rounds in (0, 1, 2):
                self.assertGreater(kinds[twins, rounds], 3)

    def test_played_with_more_bits(self):
        draw = random.Random(7)
        for bits, slots, lanes, rows in [(5, 3, 2, 2), (5, 3, 4, 3), (6, 4, 3, 2), (6, 4, 5, 3), (6, 3, 6, 6), (7, 5, 4, 3)]:
            for _ in range(4):
                spread = drawn_spread(draw, bits, slots, lanes)
                self.play(spread, Space(bits, [draw.randrange(2 ** bits) for _ in range(rows)]))

    def play(self, spread, space):
        """Plays all rounds of a plan, with all lanes."""
        plan = SumPlan(spread, space)
        self.assertEqual((plan.spread, plan.space, plan.rounds), (spread, space, sum_rounds(spread, space)))
        team = partners(spread, space)
        held = lots(spread, space)
        for number in range(plan.rounds):
            shown, ahead = {}, [dict(values) for values in held]
            for lane in range(len(held)):
                taken = plan.take(number, lane)
                if taken is not None:
                    self.assertIsInstance(taken, tuple)
                    giver, entry = taken
                    coset = space.least(entry)
                    self.assertIn(giver ^ lane, team)
                    self.assertEqual(shown.setdefault(giver, coset), coset)
                    held[lane][coset] = ahead[lane].get(coset, []) + ahead[giver][coset]
        for entry in range(2 ** spread.bits):
            made = held[plan.home(entry)][space.least(entry)]
            self.assertEqual(sorted(made), list(space.listed(entry)))

    def test_far_sums(self):
        draw = random.Random(8)
        start = time.monotonic()
        far = 0
        for slots, lanes, rows in [(50, 50, 50), (90, 10, 40), (60, 70, 30), (99, 8, 3), (70, 90, 60), (20, 100, 90)]:
            spread = drawn_far(draw, 100, slots, lanes)
            space = Space(100, [draw.getrandbits(100) for _ in range(rows)] + list(spread.slots[:3]))
            plan = SumPlan(spread, space)
            for _ in range(6):
                if plan.rounds:
                    self.check_far_round(draw, plan, draw.randrange(plan.rounds))
            for number in (0, plan.rounds - 1):
                self.check_far_round(draw, plan, number)
            far += plan.rounds > 2 ** 20
        self.assertGreater(far, 2)
        self.assertLess(time.monotonic() - start, 60)

    def check_far_round(self, draw, plan, number):
        """That in one round lanes show one sum each, one that they and those that take it have a part of."""
        spread, space = plan.spread, plan.space
        both, team = spread.slot_space() + space, partners(spread, space)
        near = draw.getrandbits(len(spread.lanes))
        shown = {}
        for lane in [near, *[near ^ row for row in team.rows], draw.getrandbits(len(spread.lanes))]:
            giver, entry = plan.take(number, lane)
            self.assertIn(giver ^ lane, team)
            self.assertIn(spread.entry(0, lane) ^ entry, both)
            self.assertEqual(shown.setdefault(giver, space.least(entry)), space.least(entry))

    def test_values_of_far_sums(self):
        # Sums of far too many entries to list them, with so few rounds that each value can be followed.
        draw = random.Random(9)
        for k, s, c, more in [(3, 4, 0, 80), (4, 3, 1, 80), (2, 5, 2, 70), (1, 6, 3, 60), (5, 5, 0, 60), (0, 6, 0, 70)]:
            bits = k + s + more
            words = drawn_undoable(draw, bits).columns
            rest = words[k + s:]
            lanes = [*words[k:k + s], *rest[:9]]
            lanes = [word ^ draw.choice([0, *words[:k], *rest[9:]]) for word in lanes + [0] * c]
            spread = Spread(bits, [*words[:k], *rest[9:]], lanes)
            plan = SumPlan(spread, Space(bits, [*words[k:k + s], *rest[9:]]))
            self.assertEqual(plan.rounds, sum_rounds(spread, plan.space))
            for _ in range(3):
                self.follow(draw, plan, draw.getrandbits(bits), 2 ** s)

    def follow(self, draw, plan, entry, many):
        """That the lots behind the value at home are all of the sum's, each once."""
        spread, space = plan.spread, plan.space
        lanes = self.givers(plan, plan.home(entry), space.least(entry), plan.rounds)
        self.assertEqual(len(lanes), many)
        part = spread.slot_space() & space
        self.assertEqual(len({part.least(self.held_of(spread, space, lane, entry)) for lane in lanes}), many)

    def held_of(self, spread, space, lane, entry):
        """An entry of a lane that is in the coset of entry."""
        rows = spread.slot_space().rows
        held = spread.entry(0, lane)
        way = Map(spread.bits, [*rows, *space.rows]).solve(held ^ entry)
        for bit, row in enumerate(rows):
            held ^= row * (way >> bit & 1)
        self.assertIn(held ^ entry, space)
        return held

    def givers(self, plan, lane, coset, rounds):
        """The lanes whose first values are in the value of a lane ahead of a round."""
        found = [lane]
        for number in range(rounds):
            taken = plan.take(number, lane)
            if taken is not None and plan.space.least(taken[1]) == coset:
                found += self.givers(plan, taken[0], coset, number)
        return found


class WrongTest(unittest.TestCase):

    def test_wrong_values(self):
        spread, summed = Spread(4, [1, 2], [4, 8]), Space(4, [4, 8])
        places = [any_spread("spread", spread), space("space", summed)]
        for function in (partners, sum_rounds, sum_steps, SumPlan):
            check_wrong(self, function, places)
            check_names(self, function, places)
        plan = SumPlan(spread, summed)
        self.assertEqual(plan.rounds, 3)
        for function, places in [(plan.take, [below("number", 2, 3), word("lane", 1, 2)]), (plan.home, [word("entry", 9, 4)])]:
            check_wrong(self, function, places)
            check_names(self, function, places)

    def test_no_round(self):
        plan = SumPlan(Spread(1, [1], [0]), every(1))
        for number in (0, 1, -1):
            with self.assertRaises(BadValue) as caught:
                plan.take(number, 0)
            self.assertEqual(caught.exception.value, number)


if __name__ == "__main__":
    unittest.main()
