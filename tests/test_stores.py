import random
import time
import unittest
from itertools import product

from laneswap.errors import BadValue, NotOneToOne, Unfit
from laneswap.maps import Map, unit_map
from laneswap.spaces import Space, every
from laneswap.spreads import Spread
from laneswap.stores import Store, chain, fitting, store_for
from tests.drawing import all_spaces, drawn_far, drawn_spread, drawn_undoable
from tests.wrong import (Place, any_spread, below, check_names, check_wrong, list_of, no_wholes, objects, space, spread,
                         themselves, told_map, wholes, word)


def nested(one, other):
    return one.inside(other) or other.inside(one)


def has_chain(spreads, widths, spaces):
    """Whether there is a chain, found among all of the spaces."""
    links = [[]]
    for spread, width in zip(spreads, widths):
        fits = [each for each in spaces if each.dimension == width and each.inside(spread.slot_space())]
        links = [[*link, each] for link in links for each in fits if all([nested(each, other) for other in link])]
    return links != []


def drawn_few(draw, bits, many):
    """Spreads of the same bits, whose slot spaces often share words."""
    found = []
    for _ in range(many):
        made = drawn_spread(draw, bits, draw.randrange(bits + 2))
        words = [word for each in found[:1] for word in each.slots] if draw.randrange(2) else []
        found.append(Spread(bits, [*made.slots, *words[:draw.randrange(3)]], made.lanes))
    return found


class ChainTest(unittest.TestCase):

    def test_fitting_by_all_spaces(self):
        draw = random.Random(1)
        found = {True: 0, False: 0}
        for bits in (0, 1, 2, 3):
            spaces = all_spaces(bits)
            for many in (1, 2, 2, 2, 3):
                for _ in range(20):
                    spreads = drawn_few(draw, bits, many)
                    widths = [draw.randrange(bits + 2) for _ in range(many)]
                    expected = has_chain(spreads, widths, spaces)
                    self.assertIs(fitting(spreads, widths), expected)
                    self.check_chain(spreads, widths, expected)
                    found[expected] += 1
        self.assertGreater(min(found.values()), 50)

    def check_chain(self, spreads, widths, expected):
        made = chain(spreads, widths)
        self.assertEqual(made is not None, expected)
        if made is not None:
            self.assertIsInstance(made, tuple)
            self.assertEqual([each.dimension for each in made], list(widths))
            for each, spread in zip(made, spreads):
                self.assertTrue(each.inside(spread.slot_space()))
                self.assertTrue(all([nested(each, other) for other in made]))

    def test_told_chains(self):
        grid, turned, mixed = Spread(4, [1, 2], [4, 8]), Spread(4, [4, 8], [1, 2]), Spread(4, [1, 4], [2, 8])
        told = [([grid, grid], [2, 2], True), ([grid, turned], [2, 0], True), ([grid, turned], [0, 2], True),
                ([grid, turned], [1, 1], False), ([grid, mixed], [1, 2], True), ([mixed, grid], [2, 2], False),
                ([grid], [3], False), ([grid], [0], True), ([grid, mixed, turned], [2, 1, 0], True),
                ([turned, grid, mixed], [1, 0, 1], True), ([grid, mixed, turned], [2, 1, 1], False),
                ([grid, grid, mixed, grid], [2, 1, 1, 2], True), ((grid, mixed), (1, 1), True)]
        for spreads, widths, expected in told:
            self.assertIs(fitting(spreads, widths), expected)
            self.check_chain(spreads, widths, expected)
        self.assertEqual(chain([grid, grid], [2, 2]), (Space(4, [1, 2]),) * 2)
        self.assertEqual(chain([grid, mixed], [1, 2]), (Space(4, [1]), Space(4, [1, 4])))

    def test_numbers_of_lanes_may_be_unlike(self):
        one, other = Spread(2, [1, 2], []), Spread(2, [1], [2, 0, 3])
        self.assertEqual(chain([one, other], [2, 1]), (every(2), Space(2, [1])))

    def test_arguments_stay_as_they_are(self):
        spreads, widths = [Spread(2, [1, 2], []), Spread(2, [1], [2])], [1, 1]
        before = (list(spreads), list(widths))
        self.assertTrue(fitting(spreads, widths))
        chain(spreads, widths)
        store_for(*spreads, widths, 1)
        self.assertEqual((spreads, widths), before)

    def test_eighty_bits(self):
        draw = random.Random(2)
        start = time.monotonic()
        for _ in range(6):
            common = [draw.getrandbits(80) for _ in range(12)]
            spreads = [self.with_slots(draw, common[:draw.randrange(6, 13)]) for _ in range(8)]
            widths = [draw.randrange(7) for _ in spreads]
            self.check_chain(spreads, widths, True)
            self.check_chain(spreads, [*widths[:5], 90, *widths[6:]], False)
            widths[3] = spreads[3].slot_space().dimension
            self.check_chain(spreads, widths, True)
        self.assertLess(time.monotonic() - start, 60)

    def with_slots(self, draw, words):
        made = drawn_far(draw, 80, 30, 60)
        return Spread(80, [*made.slots, *words], made.lanes)


class StoreTest(unittest.TestCase):

    def test_banks_and_what_meets_in_them(self):
        draw = random.Random(3)
        for bits in (0, 1, 2, 3, 4):
            for banks in range(bits + 1):
                for _ in range(4):
                    change = drawn_undoable(draw, bits)
                    store = Store(change, banks)
                    self.assertEqual((store.change, store.banks), (change, banks))
                    numbers = [store.bank(entry) for entry in range(2 ** bits)]
                    self.assertEqual(numbers, [change(entry) % 2 ** banks for entry in range(2 ** bits)])
                    self.assertEqual((store.bank_map().source, store.bank_map().goal), (bits, banks))
                    self.assertEqual([store.bank_map()(entry) for entry in range(2 ** bits)], numbers)
                    asked = Space(bits, [draw.randrange(2 ** bits) for _ in range(draw.randrange(bits + 1))])
                    met = [word for word in asked.listed() if numbers[word] == 0]
                    self.assertEqual(2 ** store.meeting(asked), len(met))

    def test_store_of_no_bits(self):
        store, nothing = Store(Map(0, []), 0), Spread(0, [], [])
        self.assertEqual((store.bank(0), store.bank_map(), store.meeting(every(0))), (0, Map(0, []), 0))
        self.assertEqual((store.fits(nothing, 0), store.touched(nothing, 0), store.beats(nothing, 0)), (True, every(0), 1))
        self.assertEqual(store.beats(Spread(0, [0], [0, 0]), 0), 1)
        with self.assertRaises(BadValue):
            Store(Map(0, []), 1)

    def test_played(self):
        draw = random.Random(4)
        found = {True: 0, False: 0}
        for _ in range(250):
            bits = draw.randrange(5)
            spread = drawn_spread(draw, bits, draw.randrange(bits + 2))
            store = self.drawn_store(draw, spread)
            for width in range(store.banks + 1):
                found[self.play(store, spread, width)] += 1
        self.assertGreater(min(found.values()), 100)

    def drawn_store(self, draw, spread):
        """A Store whose first addresses are often those of entries of one slot space."""
        words = [*spread.slot_space().rows, *spread.slot_space().completing(every(spread.bits))]
        if draw.randrange(4):
            change = ~Map(spread.bits, words)
        else:
            change = drawn_undoable(draw, spread.bits)
        return Store(change, draw.randrange(spread.bits + 1))

    def play(self, store, spread, width):
        """Plays the transfers of all slots, phase by phase and bank by bank."""
        near = [entry for entry in range(2 ** spread.bits) if store.change(entry) < 2 ** width]
        fits = set(near) <= set(spread.held(0))
        self.assertIs(store.fits(spread, width), fits)
        if not fits:
            for ask in (store.touched, store.beats):
                with self.assertRaises(Unfit) as caught:
                    ask(spread, width)
                self.assertEqual(caught.exception.width, width)
            return False
        lanes = len(spread.lanes)
        phases = 2 ** min(width, lanes)
        for slot in range(2 ** len(spread.slots)):
            beats = 0
            for phase in range(phases):
                served = range(phase * 2 ** lanes // phases, (phase + 1) * 2 ** lanes // phases)
                entries = {spread.entry(slot, lane) ^ word for lane in served for word in near}
                if slot == phase == 0:
                    self.assertEqual(sorted(entries), list(store.touched(spread, width).listed()))
                met = {}
                for entry in entries:
                    met[store.change(entry) % 2 ** store.banks] = met.get(store.change(entry) % 2 ** store.banks, 0) + 1
                self.assertEqual(min(met.values()), max(met.values()))
                beats += max(met.values())
            self.assertEqual(store.beats(spread, width), beats)
        return True

    def test_widths_at_above_and_below_the_banks(self):
        grid, level = Spread(4, [1, 2], [4, 8]), Store(unit_map(4), 2)
        self.assertEqual([level.fits(grid, width) for width in range(3)], [True] * 3)
        for ask in (level.fits, level.touched, level.beats):
            with self.assertRaises(BadValue) as caught:
                ask(grid, 3)
            self.assertEqual(caught.exception.value, 3)
        wide = Store(unit_map(4), 4)
        self.assertEqual([wide.fits(grid, width) for width in range(5)], [True] * 3 + [False] * 2)
        self.assertEqual([level.beats(grid, width) for width in range(3)], [4, 4, 4])
        self.assertEqual([wide.beats(grid, width) for width in range(3)], [1, 2, 4])
        self.assertEqual(Store(unit_map(4), 0).beats(grid, 0), 4)
        self.assertEqual(Store(unit_map(2), 2).beats(Spread(2, [1, 2], [0]), 2), 2)
        with self.assertRaises(Unfit) as caught:
            wide.beats(grid, 4)
        self.assertEqual(caught.exception.width, 4)

    def test_not_one_to_one(self):
        for columns, word in (([1, 1, 2], 3), ([0, 1, 2], 1), ([1, 2, 3], 7)):
            for banks in range(4):
                with self.assertRaises(NotOneToOne) as caught:
                    Store(Map(3, columns), banks)
                self.assertEqual(caught.exception.word, word)
            with self.assertRaises(BadValue) as caught:
                Store(Map(3, columns), 4)
            self.assertEqual(caught.exception.value, 4)

    def test_eighty_bits(self):
        draw = random.Random(5)
        for slots, lanes, banks, width in [(40, 50, 60, 20), (60, 20, 50, 30), (10, 90, 80, 10), (80, 0, 10, 10)]:
            spread = drawn_far(draw, 80, slots, lanes)
            words = [*spread.slot_space().rows, *spread.slot_space().completing(every(80))]
            store = Store(~Map(80, words), banks)
            self.assertTrue(store.fits(spread, width))
            area = Space(80, [*spread.lanes[:max(0, lanes - width)], *words[:width]])
            self.assertEqual(store.touched(spread, width), area)
            met = (area & Space(80, words[banks:])).dimension
            self.assertEqual(store.meeting(area), met)
            self.assertEqual(store.beats(spread, width), 2 ** (min(width, lanes) + met))


class StoreForTest(unittest.TestCase):

    def check_store(self, one, other, widths, banks):
        """That both are as free as can be; tells whether there is a store."""
        store = store_for(one, other, widths, banks)
        if store is None:
            return False
        self.assertIsInstance(store, Store)
        self.assertEqual(store.banks, banks)
        for spread, width in zip((one, other), widths):
            self.assertTrue(store.fits(spread, width))
            area = store.touched(spread, width)
            met = max(0, area.dimension - banks)
            self.assertEqual(store.meeting(area), met)
            self.assertEqual(store.beats(spread, width), 2 ** (min(width, len(spread.lanes)) + met))
        return True

    def test_drawn_pairs(self):
        draw = random.Random(6)
        found = {True: 0, False: 0}
        for _ in range(300):
            bits = draw.randrange(5)
            one, other = drawn_few(draw, bits, 2)
            banks = draw.randrange(bits + 1)
            widths = [draw.randrange(banks + 1), draw.randrange(banks + 1)]
            made = self.check_store(one, other, widths, banks)
            self.assertIs(made, fitting([one, other], widths))
            found[made] += 1
        self.assertGreater(min(found.values()), 40)

    def test_slot_spaces_that_share_all_some_or_nothing(self):
        grid, turned, mixed = Spread(4, [1, 2], [4, 8]), Spread(4, [4, 8], [1, 2]), Spread(4, [1, 4], [2, 8])
        for other, chains in [(grid, [(0, 0), (1, 2), (2, 1), (2, 2)]), (mixed, [(0, 2), (1, 2), (2, 1), (1, 1)]),
                              (turned, [(0, 2), (2, 0), (1, 0), (0, 0)])]:
            for widths in product(range(3), repeat=2):
                for banks in range(2, 5):
                    made = self.check_store(grid, other, list(widths), banks)
                    self.assertIs(made, fitting([grid, other], widths))
                    if widths in chains:
                        self.assertTrue(made)
        self.assertIsNone(store_for(grid, turned, [1, 1], 2))
        self.assertIsNone(store_for(grid, mixed, [2, 2], 2))
        self.assertIsNone(store_for(grid, grid, [3, 3], 4))

    def test_widths_greater_than_banks(self):
        grid, turned = Spread(4, [1, 2], [4, 8]), Spread(4, [4, 8], [1, 2])
        for widths, banks, width in [([2, 0], 1, 2), ([0, 2], 1, 2), ([3, 2], 1, 3), ([1, 2], 1, 2), ([5, 6], 4, 5),
                                     ([1, 1], 0, 1), ([4, 10 ** 30], 4, 10 ** 30)]:
            with self.assertRaises(Unfit) as caught:
                store_for(grid, turned, widths, banks)
            self.assertEqual(caught.exception.width, width)
        self.assertTrue(self.check_store(grid, turned, [0, 0], 0))
        self.assertTrue(self.check_store(Spread(0, [], []), Spread(0, [0], [0]), (0, 0), 0))

    def test_eighty_bits(self):
        draw = random.Random(7)
        start = time.monotonic()
        found = {True: 0, False: 0}
        for banks in (5, 30, 50, 64, 80, 20, 40):
            for slots, lanes in [(40, 60), (20, 80), (70, 15), (90, 90)]:
                one = drawn_far(draw, 80, slots, lanes)
                made = drawn_far(draw, 80, 40, 50)
                other = Spread(80, [*made.slots, *one.slots[:10]], made.lanes)
                widths = [draw.randrange(min(banks, 25) + 1), draw.randrange(min(banks, 25) + 1)]
                found[self.check_store(one, other, widths, banks)] += 1
        self.assertGreater(min(found.values()), 2)
        self.assertLess(time.monotonic() - start, 60)


class WrongTest(unittest.TestCase):

    def spreads_place(self, name, good):
        place = list_of(name, good, [value for value in objects() if not isinstance(value, Spread)])
        unlike = [[], (), [*good, Spread(3, [1, 2, 4], [])], [Spread(5, [], [1, 2, 4, 8, 16]), *good]]
        place.wrong += themselves(unlike)
        return place

    def widths_place(self, name, good):
        place = wholes(name, good)
        place.wrong += themselves([[], (), good[:1], [*good, 0], (0, 1, 2, 3)])
        return place

    def test_wrong_spreads_and_widths(self):
        grid, turned = Spread(4, [1, 2], [4, 8]), Spread(4, [4, 8], [1, 2])
        places = [self.spreads_place("spreads", [grid, turned]), self.widths_place("widths", [2, 0])]
        for function in (fitting, chain):
            check_wrong(self, function, places)
            check_names(self, function, places)

    def test_wrong_values_of_store_for(self):
        grid, turned = Spread(4, [1, 2], [4, 8]), Spread(4, [4, 8], [1, 2])
        places = [any_spread("one", grid), spread("other", turned), self.widths_place("widths", [2, 0]),
                  below("banks", 2, 5)]
        check_wrong(self, store_for, places)
        check_names(self, store_for, places)
        # Wrong values come ahead of widths that are greater than banks, and these ahead of a chain that is not there.
        for widths, banks, bad in [([9, 9], 5, 5), ([9, None], 2, None), ([1, 9, 9], 0, [1, 9, 9])]:
            with self.assertRaises(BadValue) as caught:
                store_for(grid, turned, widths, banks)
            self.assertEqual(caught.exception.value, bad)
        with self.assertRaises(Unfit):
            store_for(grid, turned, [2, 3], 2)

    def test_wrong_values_of_stores(self):
        grid, store = Spread(4, [1, 2], [4, 8]), Store(unit_map(4), 2)
        places = [told_map("change", unit_map(4), [Map(4, [1, 2, 4]), Map(3, [1, 2, 4, 1]), Map(1, [])]),
                  below("banks", 2, 5)]
        check_wrong(self, Store, places)
        check_names(self, Store, places)
        transfers = [spread("spread", grid), below("width", 1, 3)]
        for function, places in [(store.bank, [word("entry", 7, 4)]), (store.meeting, [space("space", Space(4, [3]))]),
                                 (store.fits, transfers), (store.touched, transfers), (store.beats, transfers)]:
            check_wrong(self, function, places)
            check_names(self, function, places)

    def test_wrong_values_ahead_of_unfit(self):
        turned, store = Spread(4, [4, 8], [1, 2]), Store(unit_map(4), 2)
        for ask in (store.touched, store.beats):
            check_wrong(self, ask, [Place("spread", turned, []), Place("width", 1, themselves(no_wholes() + [3]))])
            with self.assertRaises(Unfit):
                ask(turned, 1)


if __name__ == "__main__":
    unittest.main()
