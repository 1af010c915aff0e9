"""What holds for all functions, classes and methods of the interface alike."""

import inspect
import unittest
from importlib import import_module

from laneswap.costs import Cost
from laneswap.desk import Desk
from laneswap.families import Family
from laneswap.growing import Growing
from laneswap.hops import plan_hops
from laneswap.maps import Map, unit_map
from laneswap.prices import Prices
from laneswap.rounds import plan_rounds
from laneswap.sizes import Size, Sizes
from laneswap.spaces import Space
from laneswap.spreads import Spread
from laneswap.stages import Stage
from laneswap.stores import Store
from laneswap.sums import SumPlan
from laneswap.tables import Table
from laneswap.threes import Three
from laneswap.writes import Writes
from tests.test_interface import FUNCTIONS, METHODS

SPACE, OTHER = Space(4, [6, 5]), Space(4, [8, 3])
MAP, BACK = Map(4, [1, 3, 4, 8]), Map(4, [2, 1, 12, 4])
GRID, TURNED = Spread(4, [1, 2], [4, 8]), Spread(4, [4, 8], [1, 2])
TABLE = Table([("row", 2), ("col", 2)])
STORE = Store(unit_map(4), 2)
THREE = Three(Space(4, [1]), Space(4, [2]), Space(4, [3]))
LINE, WAVE = Size([], [0], 1), Size([], [0, 3], 2)
EVEN = Sizes([], 0, 2, [0])
INDEX, LANE = [("row", 0), ("col", 0)], [("lane", 0)]
ROW = Family(INDEX, LANE, [("line", "col", "lane", 0)])
COLUMN = Family(INDEX, LANE, [("line", "row", "lane", 0)])
BANKS = Family([("bank", 0)], INDEX, [("line", "bank", "col", 1)])
TALL, WIDE = Growing(COLUMN, ROW), Growing(ROW, COLUMN)
COST = Cost([(3, LINE, EVEN)])


def filled_desk():
    desk = Desk()
    desk.put("grid", GRID)
    desk.put("rows", SPACE)
    desk.keep(("alike", "grid", "grid"))
    return desk


PAIR = {"one": GRID, "other": TURNED}
MOVE = {"move": BACK, "slots": 2}
# The arguments of each function, by its names in the interface; lists are made anew by each call of a lambda.
CALLS = {
    ("words", "added"): lambda: {"words": [6, 3]}, ("words", "ones"): lambda: {"word": 11},
    ("words", "word_of"): lambda: {"bits": [3, 0]}, ("words", "odd"): lambda: {"word": 6, "test": 7},
    ("spaces", "every"): lambda: {"bits": 3}, ("spaces", "shared_complement"): lambda: {"one": SPACE, "other": OTHER},
    ("maps", "unit_map"): lambda: {"bits": 3}, ("spreads", "renaming"): lambda: PAIR,
    ("spreads", "hold_alike"): lambda: PAIR, ("spreads", "matching"): lambda: PAIR,
    ("rounds", "lacks"): lambda: {**PAIR, "lane": 3}, ("rounds", "fewest_rounds"): lambda: PAIR,
    ("rounds", "short_lane"): lambda: PAIR, ("rounds", "plan_rounds"): lambda: PAIR,
    ("moves", "move_between"): lambda: PAIR, ("moves", "keeps_lanes"): lambda: MOVE,
    ("moves", "keeps_slots"): lambda: MOVE, ("moves", "is_even"): lambda: MOVE, ("moves", "uneven_parts"): lambda: MOVE,
    ("moves", "split_move"): lambda: MOVE, ("stages", "drift"): lambda: MOVE, ("stages", "fewest_stages"): lambda: MOVE,
    ("stages", "drifting"): lambda: MOVE, ("stages", "plan_stages"): lambda: MOVE,
    ("hops", "fewest_hops"): lambda: PAIR, ("hops", "plan_hops"): lambda: PAIR,
    ("sums", "partners"): lambda: {"spread": GRID, "space": SPACE},
    ("sums", "sum_rounds"): lambda: {"spread": GRID, "space": SPACE},
    ("sums", "sum_steps"): lambda: {"spread": GRID, "space": SPACE}, ("writes", "write_count"): lambda: {"spread": GRID},
    ("stores", "fitting"): lambda: {"spreads": [GRID, TURNED], "widths": [2, 0]},
    ("stores", "chain"): lambda: {"spreads": [GRID, TURNED], "widths": [2, 0]},
    ("stores", "store_for"): lambda: {**PAIR, "widths": [2, 0], "banks": 2},
    ("prices", "by_rounds"): lambda: {**PAIR, "prices": Prices(3, 2, 1)},
    ("prices", "by_store"): lambda: {**PAIR, "prices": Prices(3, 2, 1), "banks": 3, "widest": 2},
    ("threes", "jam"): lambda: {"access": SPACE, "bank_map": MAP}, ("threes", "filled"): lambda: {"three": THREE},
    ("threes", "least_banks"): lambda: {"three": THREE}, ("threes", "free_banks"): lambda: {"three": THREE, "banks": 2},
    ("threes", "best_banks"): lambda: {"three": THREE, "banks": 1, "weights": [5, 2, 3]},
    ("cores", "own_number"): lambda: {"spaces": [SPACE, OTHER, SPACE], "chosen": [2, 0]},
    ("cores", "core"): lambda: {"spaces": [SPACE, OTHER]},
    ("cores", "free_for_all"): lambda: {"spaces": [SPACE, OTHER], "banks": 3},
    ("cores", "least_for_all"): lambda: {"spaces": [SPACE, OTHER]}, ("ranks", "rank_size"): lambda: {"family": ROW},
    ("ranks", "chain_size"): lambda: {"families": [BANKS, ROW]},
    ("ranks", "joined_size"): lambda: {"families": [ROW, COLUMN]},
    ("ranks", "common_size"): lambda: {"families": [ROW, COLUMN]}, ("ranks", "one_to_one"): lambda: {"family": ROW},
    ("ranks", "onto"): lambda: {"family": ROW}, ("ranks", "apart"): lambda: {"one": ROW, "other": COLUMN},
    ("growing", "meeting_size"): lambda: {"access": ROW, "banks": BANKS},
    ("growing", "free_for_three"): lambda: {"one": ROW, "two": COLUMN, "three": ROW, "bits": LINE},
    ("growing", "growing_rounds"): lambda: {"one": TALL, "other": WIDE},
    ("growing", "growing_hops"): lambda: {"one": TALL, "other": WIDE},
}
# For each class the arguments of an object, and those of its methods, each called off an object made anew.
CLASSES = {
    ("spaces", "Space"): lambda: {"bits": 4, "words": [6, 5]}, ("maps", "Map"): lambda: {"goal": 4, "columns": [1, 3, 4, 8]},
    ("spreads", "Spread"): lambda: {"bits": 4, "slots": [1, 2], "lanes": [4, 8]},
    ("tables", "Table"): lambda: {"groups": [["row", 2], ("col", 2)]}, ("rounds", "RoundPlan"): lambda: plan_rounds(GRID, TURNED),
    ("stages", "Stage"): lambda: {"slot_bits": 1, "lane_bits": 2, "step": 2, "test": 3},
    ("stages", "StagePlan"): None, ("cores", "Core"): None, ("hops", "HopPlan"): lambda: plan_hops(GRID, TURNED),
    ("sums", "SumPlan"): lambda: {"spread": GRID, "space": SPACE}, ("writes", "Writes"): lambda: {"spread": GRID},
    ("stores", "Store"): lambda: {"change": MAP, "banks": 2}, ("prices", "Prices"): lambda: {"swap": 3, "transfer": 2, "beat": 1},
    ("threes", "Three"): lambda: {"one": SPACE, "two": OTHER, "three": Space(4, [1])},
    ("sizes", "Size"): lambda: {"first": [5, 1], "cycle": [2, 3], "gain": -1},
    ("sizes", "Sizes"): lambda: {"few": [2, 0], "start": 4, "period": 3, "rests": [2]},
    ("families", "Family"): lambda: {"outs": [["row", 0]], "ins": [("col", 1)], "rules": [("line", "row", "col", 1)]},
    ("growing", "Growing"): lambda: {"slots": ROW, "lanes": COLUMN}, ("costs", "Cost"): lambda: {"terms": [[3, LINE, EVEN]]},
    ("desk", "Desk"): filled_desk,
}
ARGUMENTS = {
    ("Space", "inside"): {"other": OTHER}, ("Space", "least"): {"word": 7}, ("Space", "listed"): {"word": 8},
    ("Space", "completing"): {"other": OTHER}, ("Map", "__call__"): {"word": 5}, ("Map", "solve"): {"word": 5},
    ("Map", "moved"): {"space": SPACE}, ("Map", "origin"): {"space": SPACE}, ("Map", "beside"): {"other": BACK},
    ("Map", "stacked"): {"other": BACK}, ("Spread", "entry"): {"slot": 1, "lane": 2}, ("Spread", "lane_of"): {"entry": 7},
    ("Spread", "slot_of"): {"entry": 7, "lane": 1}, ("Spread", "held"): {"lane": 2}, ("Spread", "together"): {"entries": [0, 3]},
    ("Spread", "renamed"): {"change": BACK}, ("Table", "part"): {"name": "col"}, ("Table", "write_word"): {"word": 5},
    ("Table", "read_word"): {"text": "row 1"}, ("Table", "write"): {"spread": GRID}, ("Table", "read"): {"text": TABLE.write(GRID)},
    ("RoundPlan", "take"): {"number": 0, "lane": 2}, ("RoundPlan", "when"): {"lane": 1, "entry": 6},
    ("Stage", "place"): {"word": 3}, ("HopPlan", "route"): {"lane": 1, "entry": 5}, ("SumPlan", "take"): {"number": 0, "lane": 1},
    ("SumPlan", "home"): {"entry": 6}, ("Writes", "slot_in"): {"number": 1, "lane": 2}, ("Store", "bank"): {"entry": 6},
    ("Store", "meeting"): {"space": SPACE}, ("Store", "fits"): {"spread": GRID, "width": 1},
    ("Store", "touched"): {"spread": GRID, "width": 1}, ("Store", "beats"): {"spread": GRID, "width": 1},
    ("Three", "leading"): {"other": Three(SPACE, OTHER, Space(4, [1]))}, ("Size", "__call__"): {"n": 9},
    ("Size", "greater"): {"other": WAVE}, ("Size", "below_at"): {"other": WAVE}, ("Size", "equal_at"): {"other": WAVE},
    ("Sizes", "many_below"): {"n": 9}, ("Family", "sized"): {"n": 3}, ("Growing", "sized"): {"n": 3}, ("Cost", "__call__"): {"n": 4},
    ("Cost", "below_at"): {"other": COST}, ("Cost", "equal_at"): {"other": COST}, ("Desk", "put"): {"name": "more", "thing": STORE},
    ("Desk", "drop"): {"name": "rows"}, ("Desk", "rename"): {"change": BACK}, ("Desk", "keep"): {"promise": ("sums", "grid", "rows", 9)},
    ("Desk", "release"): {"promise": ("alike", "grid", "grid")}, ("Desk", "holds"): {"promise": ("alike", "grid", "grid")},
    ("Desk", "attempt"): {"action": len}, ("Desk", "trial"): {"action": len},
}


def shown(value):
    """A value by what it is made of, down to numbers and texts."""
    if isinstance(value, (list, tuple)):
        return type(value), [shown(item) for item in value]
    if isinstance(value, dict):
        return sorted([(key, shown(item)) for key, item in value.items()], key=lambda pair: str(pair[0]))
    if type(value).__module__.startswith("laneswap."):
        return type(value), shown(vars(value))
    return value


def spoilt(arguments):
    """Changes all lists among arguments, also those in lists."""
    for value in arguments:
        if isinstance(value, list):
            spoilt(value)
            value.append("spoilt")
            value.reverse()


class ProgramTest(unittest.TestCase):

    def check_calls(self, make, call_of):
        """That a call gives the same by position and by name in any order; that lists stay, and may change later."""
        values = list(make().values())
        expected = shown(call_of()(*values))
        self.assertEqual(shown(values), shown(list(make().values())))
        for turn in (1, -1):
            by_name = dict(list(make().items())[::turn])
            result = call_of()(**by_name)
            self.assertEqual(shown(result), expected)
            self.assertEqual(shown(by_name), shown(make()))
            spoilt(by_name.values())
            self.assertEqual(shown(result), expected)
        by_tuples = {name: tuple(value) if isinstance(value, list) else value for name, value in make().items()}
        self.assertEqual(shown(call_of()(**by_tuples)), expected)

    def test_functions(self):
        told = {(module, name): names for module, functions in FUNCTIONS.items() for name, names in functions.items()}
        self.assertEqual(sorted(told), sorted(CALLS))
        for (module, name), names in told.items():
            with self.subTest(function=name):
                make = CALLS[module, name]
                self.assertEqual(list(make()), names)
                self.check_calls(make, lambda: getattr(import_module("laneswap." + module), name))

    def test_classes(self):
        self.assertEqual(sorted(METHODS), sorted(CLASSES))
        for (module, name), make in CLASSES.items():
            with self.subTest(kind=name):
                kind = getattr(import_module("laneswap." + module), name)
                if make and isinstance(make(), dict):
                    self.assertEqual(list(make()), list(inspect.signature(kind).parameters))
                    self.check_calls(make, lambda: kind)

    def made(self, module, name):
        make = CLASSES[module, name]
        kind = getattr(import_module("laneswap." + module), name)
        return kind(**make()) if isinstance(make(), dict) else make()

    def test_methods(self):
        used = []
        for (module, kind), methods in METHODS.items():
            for name, names in methods.items():
                if names and name != "__init__":
                    with self.subTest(kind=kind, method=name):
                        used.append((kind, name))
                        arguments = ARGUMENTS[kind, name]
                        self.assertEqual(list(arguments), names)
                        make = lambda: {key: list(value) if isinstance(value, list) else value
                                        for key, value in arguments.items()}
                        self.check_calls(make, lambda: getattr(self.made(module, kind), name))
                elif names == [] and name != "__init__":
                    made = self.made(module, kind)
                    if (kind, name) != ("Desk", "undo"):
                        self.assertEqual(shown(getattr(made, name)()), shown(getattr(self.made(module, kind), name)()))
        self.assertEqual(sorted(used), sorted(ARGUMENTS))

    def test_objects_are_not_changed_by_what_they_answer(self):
        for (module, kind), methods in METHODS.items():
            if kind != "Desk" and CLASSES[module, kind]:
                made = self.made(module, kind)
                before = shown(made)
                for name, names in methods.items():
                    if names == []:
                        getattr(made, name)()
                    elif names and name != "__init__":
                        getattr(made, name)(**ARGUMENTS[kind, name])
                self.assertEqual(shown(made), before)

    def test_operators_leave_their_operands(self):
        values = [SPACE, OTHER, MAP, BACK, GRID, TURNED, LINE, WAVE, EVEN, ROW, COLUMN, COST]
        before = shown(values)
        told = [SPACE & OTHER, SPACE + OTHER, MAP * BACK, MAP + BACK, ~MAP, MAP // BACK, GRID | TURNED, (GRID | TURNED) // GRID,
                LINE + WAVE, 3 - LINE, LINE - 3, 2 * WAVE, EVEN & ~EVEN, EVEN | EVEN, ROW + COLUMN, COST + COST, 3 * COST - COST,
                6 in SPACE, 6 in EVEN, MAP[1], SPACE == OTHER, COST == COST, MAP == BACK]
        self.assertEqual((shown(values), len(told)), (before, 23))

    def test_other_objects_are_equal_only_to_themselves(self):
        for module, kind in CLASSES:
            if "__eq__" not in METHODS[module, kind] and CLASSES[module, kind]:
                one, other = self.made(module, kind), self.made(module, kind)
                self.assertTrue(one == one and not one != one)
                self.assertTrue(one != other and not one == other)

    def test_equal_by_value(self):
        for module, kind in CLASSES:
            if "__eq__" in METHODS[module, kind]:
                one, other = self.made(module, kind), self.made(module, kind)
                self.assertTrue(one == other and not one != other)
                for value in (None, 0, 1, "a", (), [], object(), SPACE, MAP, GRID, TABLE, LINE, EVEN, ROW, COST):
                    if type(value) is not type(one):
                        self.assertIs(one == value, False)
                        self.assertIs(one != value, True)
        self.assertEqual([Stage(1, 1, 1, 1).step, Writes(GRID).count, SumPlan(GRID, SPACE).spread], [1, 4, GRID])


if __name__ == "__main__":
    unittest.main()
