import random
import time
import unittest
from itertools import combinations, product

from laneswap.errors import NotApart, NotOneToOne, NotOnto, TooLarge
from laneswap.maps import Map, unit_map
from laneswap.spaces import Space, every
from laneswap.spreads import Spread, hold_alike, matching, renaming
from tests.drawing import drawn_spread, drawn_spreads, drawn_undoable, places_of
from tests.wrong import any_spread, check_names, check_wrong, told_map, whole, word, words


class SpreadTest(unittest.TestCase):

    def test_entries(self):
        for made in drawn_spreads(1, 100):
            for (slot, lane), entry in places_of(made).items():
                self.assertEqual(made.entry(slot, lane), entry)
            self.assertEqual(sorted(set(places_of(made).values())), list(range(2 ** made.bits)))

    def test_not_onto(self):
        draw = random.Random(2)
        missed = 0
        for _ in range(300):
            bits = draw.randrange(5)
            slots = [draw.randrange(2 ** bits) for _ in range(draw.randrange(3))]
            lanes = [draw.randrange(2 ** bits) for _ in range(draw.randrange(3))]
            found = Space(bits, slots + lanes)
            missing = [entry for entry in range(2 ** bits) if entry not in found]
            if missing:
                missed += 1
                with self.assertRaises(NotOnto) as caught:
                    Spread(bits, slots, lanes)
                self.assertEqual(caught.exception.word, missing[0])
            else:
                made = Spread(bits, slots, lanes)
                self.assertEqual((made.bits, made.slots, made.lanes), (bits, tuple(slots), tuple(lanes)))
        self.assertGreater(missed, 50)

    def test_no_bits_no_slots_no_lanes(self):
        none = Spread(0, [], [])
        self.assertEqual((none.entry(0, 0), none.lane_of(0), none.slot_of(0, 0), none.held(0)), (0, 0, 0, (0,)))
        self.assertEqual((none.parts(), none.copies(), none.twins()), ((), Space(0, []), Space(0, [])))
        only_lanes, only_slots = Spread(2, [], [2, 1]), Spread(2, [2, 1], [])
        self.assertEqual((only_lanes.held(1), only_lanes.lane_of(1), only_lanes.slot_of(1, 2)), ((2,), 2, 0))
        self.assertEqual(only_lanes.slot_of(1, 1), None)
        self.assertEqual((only_slots.held(0), only_slots.lane_of(3), only_slots.slot_of(1, 0)), ((0, 1, 2, 3), 0, 2))
        zeros = Spread(0, [0], [0, 0])
        self.assertEqual((zeros.copies(), zeros.twins(), zeros.held(3)), (every(3), every(2), (0,)))
        self.assertEqual(zeros.parts(), (((), (0,), ()), ((), (), (0,)), ((), (), (1,))))

    def test_where_entries_lie(self):
        for made in drawn_spreads(3, 150):
            places = places_of(made)
            for entry in range(2 ** made.bits):
                lanes = sorted({lane for (_, lane), held in places.items() if held == entry})
                self.assertEqual(made.lane_of(entry), lanes[0])
                for lane in range(2 ** len(made.lanes)):
                    slots = [slot for slot in range(2 ** len(made.slots)) if places[slot, lane] == entry]
                    self.assertEqual(made.slot_of(entry, lane), min(slots, default=None))

    def test_what_lanes_hold(self):
        for made in drawn_spreads(4, 150):
            places = places_of(made)
            held = {}
            for lane in range(2 ** len(made.lanes)):
                held[lane] = tuple(sorted({places[slot, lane] for slot in range(2 ** len(made.slots))}))
                self.assertEqual(made.held(lane), held[lane])
            twins = [one for one in held if held[one] == held[0]]
            self.assertEqual(made.twins(), Space(len(made.lanes), twins))
            self.assertEqual(made.twins().listed(), tuple(twins))
            for one, other in product(held, held):
                self.assertIs(one ^ other in made.twins(), held[one] == held[other])
            self.assertEqual(made.slot_space().listed(), held[0])
            self.assertEqual(made.lane_space(), Space(made.bits, made.lanes))

    def test_copies_and_placing(self):
        for made in drawn_spreads(5, 100):
            places = places_of(made)
            slots = len(made.slots)
            same = [slot + 2 ** slots * lane for (slot, lane), entry in places.items() if entry == 0]
            self.assertEqual(made.copies().listed(), tuple(sorted(same)))
            for (slot, lane), entry in places.items():
                self.assertEqual(made.placing()(slot + 2 ** slots * lane), entry)

    def test_copies_within_a_lane_and_among_lanes(self):
        within, among = Spread(2, [1, 1], [2]), Spread(2, [1], [2, 3])
        self.assertEqual((within.copies().rows, within.twins().rows), ((3,), ()))
        self.assertEqual((among.copies().rows, among.twins().rows), ((7,), (3,)))
        self.assertEqual((within.slot_of(1, 0), within.held(1), among.lane_of(3)), (1, (2, 3), 1))

    def test_held_dimension_12_and_13(self):
        twelve = Spread(13, [1 << bit for bit in range(12)] + [5, 0], [1 << 12])
        self.assertEqual(twelve.held(1), tuple(range(4096, 8192)))
        thirteen = Spread(13, [1 << bit for bit in range(13)], [3])
        with self.assertRaises(TooLarge) as caught:
            thirteen.held(1)
        self.assertEqual(caught.exception.dimension, 13)

    def test_together(self):
        for made in drawn_spreads(6, 60):
            held = [set(made.held(lane)) for lane in range(2 ** len(made.lanes))]
            self.assertIs(made.together([]), True)
            self.assertIs(made.together(()), True)
            for many in (1, 2, 3):
                for entries in combinations(range(2 ** made.bits), many):
                    expected = any([set(entries) <= each for each in held])
                    self.assertIs(made.together(list(entries)), expected)

    def test_renamed(self):
        draw = random.Random(7)
        for made in drawn_spreads(8, 100):
            change = drawn_undoable(draw, made.bits)
            renamed = made.renamed(change)
            expected = {place: change(entry) for place, entry in places_of(made).items()}
            self.assertEqual(places_of(renamed), expected)
            self.assertEqual(renaming(made, renamed), change)
        with self.assertRaises(NotOneToOne) as caught:
            Spread(3, [1], [2, 4]).renamed(Map(3, [1, 2, 3]))
        self.assertEqual(caught.exception.word, 7)

    def test_equality(self):
        made = Spread(2, [1], [2])
        self.assertEqual(made, Spread(2, (1,), (2,)))
        for other in (Spread(2, [1], [3]), Spread(2, [3], [2]), Spread(2, [1, 2], []), Spread(2, [], [1, 2]),
                      Spread(1, [1], [0]), None, 0, (2, (1,), (2,)), Map(2, [1, 2]), object()):
            self.assertFalse(made == other)
            self.assertTrue(made != other)

    def test_lists_are_copied(self):
        slots, lanes, entries = [1, 0], [2], [0, 2]
        made = Spread(2, slots, lanes)
        made.together(entries)
        self.assertEqual((slots, lanes, entries), ([1, 0], [2], [0, 2]))
        slots[0] = 3
        lanes.append(1)
        self.assertEqual(made, Spread(2, [1, 0], [2]))
        self.assertEqual((made.held(1), made.placing().columns), ((2, 3), (1, 0, 2)))


class SideBySideTest(unittest.TestCase):

    def test_places(self):
        spreads = list(drawn_spreads(9, 60, 2))
        for one, other in zip(spreads[::2], spreads[1::2]):
            both = one | other
            slots, lanes = len(one.slots), len(one.lanes)
            self.assertEqual((both.bits, len(both.slots)), (one.bits + other.bits, slots + len(other.slots)))
            self.assertEqual(len(both.lanes), lanes + len(other.lanes))
            for ((slot, lane), entry), ((high, far), behind) in product(places_of(one).items(), places_of(other).items()):
                expected = entry + 2 ** one.bits * behind
                self.assertEqual(both.entry(slot + 2 ** slots * high, lane + 2 ** lanes * far), expected)
            self.assertEqual(both // one, other)

    def test_the_other_one(self):
        whole_spread = Spread(3, [1, 2], [4])
        self.assertEqual(whole_spread // Spread(1, [1], []), Spread(2, [1], [2]))
        self.assertEqual(whole_spread // Spread(0, [], []), whole_spread)
        self.assertEqual(whole_spread // whole_spread, Spread(0, [], []))
        self.assertEqual(Spread(1, [1, 0], [0]) // Spread(1, [1], []), Spread(0, [0], [0]))

    def test_wholes_that_are_not_side_by_side(self):
        one, other = Spread(2, [1], [2, 3]), Spread(2, [3], [1])
        both = one | other
        for slots, lanes in [((1, 13), both.lanes), ((3, 12), both.lanes), (both.slots, (2, 3, 5)),
                             (both.slots, (2, 1, 4)), ((12, 1), both.lanes), (both.slots, (3, 2, 4))]:
            with self.assertRaises(NotApart):
                Spread(4, slots, lanes) // one
        for whole_spread, part in [(one, both), (one, other), (Spread(1, [1], []), Spread(1, [], [1])),
                                   (Spread(1, [1], []), Spread(1, [1, 0], [])), (Spread(0, [], []), one),
                                   (Spread(2, [1, 2], []), Spread(1, [], [1])), (Spread(1, [], [1, 0]), one)]:
            with self.assertRaises(NotApart):
                whole_spread // part

    def test_each_drawn_whole(self):
        draw = random.Random(10)
        found = {True: 0, False: 0}
        for _ in range(400):
            one = drawn_spread(draw, draw.randrange(3), 1)
            bits = one.bits + draw.randrange(2)
            lanes = [*one.lanes, *[draw.randrange(2 ** bits) for _ in range(2)]]
            slots = [*one.slots, *[draw.randrange(2 ** bits) for _ in range(1)]]
            if Space(bits, slots + lanes).dimension < bits:
                continue
            full = Spread(bits, slots, lanes)
            ahead = 2 ** one.bits
            apart = all([each % ahead == 0 for each in slots[len(one.slots):] + lanes[len(one.lanes):]])
            found[apart] += 1
            if apart:
                self.assertEqual(one | (full // one), full)
            else:
                with self.assertRaises(NotApart):
                    full // one
        self.assertGreater(min(found.values()), 20)

    def test_parts_of_words_that_are_0(self):
        made = Spread(3, [0, 5, 0], [0, 2, 1])
        self.assertEqual(made.parts(), (((0, 2), (1,), (2,)), ((1,), (), (1,)), ((), (0,), ()), ((), (2,), ()),
                                        ((), (), (0,))))

    def test_parts(self):
        for made in drawn_spreads(11, 300, 4):
            self.assertEqual(made.parts(), tied_parts(made))

    def test_parts_side_by_side(self):
        one, other = Spread(2, [1, 1], [2, 3]), Spread(1, [1], [])
        self.assertEqual((one | other).parts(), (((0, 1), (0, 1), (0, 1)), ((2,), (2,), ())))


def tied_parts(made):
    """The parts, told by following ties from bit to bit."""
    bits = [("entry", bit) for bit in range(made.bits)]
    words_of = {("slot", at): each for at, each in enumerate(made.slots)}
    words_of.update({("lane", at): each for at, each in enumerate(made.lanes)})
    ties = {bit: [] for bit in bits + list(words_of)}
    for place, each in words_of.items():
        for bit in bits:
            if each >> bit[1] & 1:
                ties[place].append(bit)
                ties[bit].append(place)
    parts, seen = [], set()
    for start in ties:
        if start not in seen:
            part, waiting = set(), [start]
            while waiting:
                at = waiting.pop()
                if at not in part:
                    part.add(at)
                    waiting += ties[at]
            seen |= part
            parts.append(tuple([tuple(sorted([number for kind, number in part if kind == wanted]))
                                for wanted in ("entry", "slot", "lane")]))
    return tuple(parts)


class SameTest(unittest.TestCase):

    def test_renaming(self):
        spreads = [each for each in drawn_spreads(12, 120, 2)]
        found = {True: 0, False: 0}
        for one, other in combinations(spreads, 2):
            change = renaming(one, other)
            if (one.bits, len(one.slots), len(one.lanes)) != (other.bits, len(other.slots), len(other.lanes)):
                self.assertIsNone(change)
                continue
            pairs = {(entry, places_of(other)[place]) for place, entry in places_of(one).items()}
            expected = len(pairs) == 2 ** one.bits and len({after for _, after in pairs}) == len(pairs)
            found[expected] += 1
            if expected:
                self.assertEqual({(entry, change(entry)) for entry in range(2 ** one.bits)}, pairs)
                self.assertEqual(one.renamed(change), other)
            else:
                self.assertIsNone(change)
        self.assertGreater(min(found.values()), 50)

    def test_hold_alike(self):
        draw = random.Random(13)
        found = {True: 0, False: 0}
        for one in drawn_spreads(14, 200, 3):
            slots = [each ^ draw.choice([0, *one.slots[:at]]) for at, each in enumerate(one.slots)]
            changed = [each ^ draw.choice([0, 0, *one.slots, draw.randrange(2 ** one.bits)]) for each in one.lanes]
            if Space(one.bits, slots + changed).dimension < one.bits:
                continue
            other = Spread(one.bits, slots + [0], changed)
            expected = [one.held(lane) == other.held(lane) for lane in range(2 ** len(one.lanes))]
            self.assertIs(hold_alike(one, other), all(expected))
            self.assertIs(hold_alike(other, one), all(expected))
            found[all(expected)] += 1
        self.assertGreater(min(found.values()), 20)

    def test_hold_alike_of_unlike_sizes(self):
        self.assertIs(hold_alike(Spread(1, [1], []), Spread(2, [1, 2], [])), False)
        self.assertIs(hold_alike(Spread(1, [1], []), Spread(1, [1], [0])), False)
        self.assertIs(hold_alike(Spread(1, [1], []), Spread(1, [1, 1], [])), True)
        self.assertIs(hold_alike(Spread(1, [1], [0]), Spread(1, [], [1])), False)

    def numbers(self, made):
        return (made.bits, len(made.slots), len(made.lanes), made.slot_space().dimension, made.lane_space().dimension)

    def test_matching(self):
        spreads = list(drawn_spreads(15, 60, 3))
        found = {True: 0, False: 0}
        for one, other in product(spreads, spreads):
            match = matching(one, other)
            expected = self.numbers(one) == self.numbers(other)
            found[expected] += 1
            if expected:
                self.check_match(one, other, match)
            else:
                self.assertIsNone(match)
        self.assertGreater(min(found.values()), 50)

    def check_match(self, one, other, match):
        self.assertIsInstance(match, tuple)
        entries, slots, lanes = match
        for change, bits in ((entries, one.bits), (slots, len(one.slots)), (lanes, len(one.lanes))):
            self.assertEqual(~change * change, unit_map(bits))
        for (slot, lane), entry in places_of(one).items():
            self.assertEqual(other.entry(slots(slot), lanes(lane)), entries(entry))

    def test_a_turned_spread_matches(self):
        draw = random.Random(16)
        for made in drawn_spreads(17, 60, 3):
            change = drawn_undoable(draw, made.bits)
            slots = Map(made.bits, made.slots) * drawn_undoable(draw, len(made.slots))
            lanes = Map(made.bits, made.lanes) * drawn_undoable(draw, len(made.lanes))
            other = Spread(made.bits, slots.columns, lanes.columns).renamed(change)
            self.check_match(made, other, matching(made, other))

    def test_a_hundred_bits(self):
        draw = random.Random(18)
        start = time.monotonic()
        one = drawn_spread(draw, 100, 60, 70)
        other = one.renamed(drawn_undoable(draw, 100))
        self.assertEqual(one.renamed(renaming(one, other)), other)
        entries, slots, lanes = matching(one, other)
        for _ in range(20):
            slot, lane, entry = draw.getrandbits(60), draw.getrandbits(70), draw.getrandbits(100)
            self.assertEqual(other.entry(slots(slot), lanes(lane)), entries(one.entry(slot, lane)))
            holder = one.lane_of(entry)
            self.assertEqual(one.entry(one.slot_of(entry, holder), holder), entry)
            self.assertIs(one.together([entry, one.entry(slot, holder)]), True)
        self.assertEqual(one.twins().dimension, one.slot_space().dimension - 30)
        long = drawn_spread(draw, 100, 200, 200)
        self.assertEqual(long.copies().dimension, 300)
        self.assertEqual((one | one) // one, one)
        self.assertLess(time.monotonic() - start, 20)


class WrongTest(unittest.TestCase):

    def test_wrong_values(self):
        made = Spread(3, [1, 2], [2, 4, 1])
        calls = [
            (Spread, [whole("bits", 3), words("slots", [1], 3), words("lanes", [2, 4], 3)]),
            (made.entry, [word("slot", 1, 2), word("lane", 5, 3)]), (made.lane_of, [word("entry", 5, 3)]),
            (made.slot_of, [word("entry", 5, 3), word("lane", 5, 3)]), (made.held, [word("lane", 5, 3)]),
            (made.together, [words("entries", [1, 2], 3)]),
            (made.renamed, [told_map("change", unit_map(3), [unit_map(2), unit_map(4), Map(3, [1, 2]), Map(4, [1, 2, 4])])]),
            (renaming, [any_spread("one", made), any_spread("other", made)]),
            (hold_alike, [any_spread("one", made), any_spread("other", made)]),
            (matching, [any_spread("one", made), any_spread("other", made)]),
        ]
        for function, places in calls:
            check_wrong(self, function, places)
            check_names(self, function, places)

    def test_wrong_operands(self):
        made = Spread(3, [1, 2], [2, 4, 1])
        check_wrong(self, lambda other: made | other, [any_spread("other", made)], named=False)
        check_wrong(self, lambda other: made // other, [any_spread("other", made)], named=False)

    def test_wrong_values_ahead_of_other_errors(self):
        check_wrong(self, Spread(13, [1 << bit for bit in range(13)], [3]).held, [word("lane", 1, 1)])
        for slots, lanes, expected in [([8], [None], 8), ([1], [8], 8), ([1], None, None)]:
            with self.assertRaises(ValueError) as caught:
                Spread(3, slots, lanes)
            self.assertEqual(caught.exception.value, expected)

    def test_values_ahead_of_a_spread(self):
        for value in (2, None, [1], "a"):
            for work in (lambda: value | Spread(1, [1], []), lambda: value // Spread(1, [1], [])):
                with self.assertRaises(TypeError):
                    work()

    def test_not_iterated_over(self):
        with self.assertRaises(TypeError):
            list(Spread(1, [1], []))


if __name__ == "__main__":
    unittest.main()
