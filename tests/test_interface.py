import inspect
import unittest
from importlib import import_module

FUNCTIONS = {
    "words": {"added": ["words"], "ones": ["word"], "word_of": ["bits"], "odd": ["word", "test"]},
    "spaces": {"every": ["bits"], "shared_complement": ["one", "other"]},
    "maps": {"unit_map": ["bits"]},
    "spreads": {"renaming": ["one", "other"], "hold_alike": ["one", "other"], "matching": ["one", "other"]},
    "rounds": {"lacks": ["one", "other", "lane"], "fewest_rounds": ["one", "other"], "short_lane": ["one", "other"],
               "plan_rounds": ["one", "other"]},
    "moves": {"move_between": ["one", "other"], "keeps_lanes": ["move", "slots"], "keeps_slots": ["move", "slots"],
              "is_even": ["move", "slots"], "uneven_parts": ["move", "slots"], "split_move": ["move", "slots"]},
    "stages": {"drift": ["move", "slots"], "fewest_stages": ["move", "slots"], "drifting": ["move", "slots"],
               "plan_stages": ["move", "slots"]},
    "hops": {"fewest_hops": ["one", "other"], "plan_hops": ["one", "other"]},
    "sums": {"partners": ["spread", "space"], "sum_rounds": ["spread", "space"], "sum_steps": ["spread", "space"]},
    "writes": {"write_count": ["spread"]},
    "stores": {"fitting": ["spreads", "widths"], "chain": ["spreads", "widths"],
               "store_for": ["one", "other", "widths", "banks"]},
    "prices": {"by_rounds": ["one", "other", "prices"], "by_store": ["one", "other", "prices", "banks", "widest"]},
    "threes": {"jam": ["access", "bank_map"], "filled": ["three"], "least_banks": ["three"],
               "free_banks": ["three", "banks"], "best_banks": ["three", "banks", "weights"]},
    "cores": {"own_number": ["spaces", "chosen"], "core": ["spaces"], "free_for_all": ["spaces", "banks"],
              "least_for_all": ["spaces"]},
    "ranks": {"rank_size": ["family"], "chain_size": ["families"], "joined_size": ["families"],
              "common_size": ["families"], "one_to_one": ["family"], "onto": ["family"], "apart": ["one", "other"]},
    "growing": {"meeting_size": ["access", "banks"], "free_for_three": ["one", "two", "three", "bits"],
                "growing_rounds": ["one", "other"], "growing_hops": ["one", "other"]},
}
METHODS = {
    ("spaces", "Space"): {
        "__init__": ["bits", "words"], "__contains__": None, "__and__": None, "__add__": None, "__eq__": None,
        "inside": ["other"], "least": ["word"], "listed": ["word"], "completing": ["other"], "complement": []},
    ("maps", "Map"): {
        "__init__": ["goal", "columns"], "__call__": ["word"], "__getitem__": None, "__iter__": None, "__mul__": None,
        "__add__": None, "__invert__": None, "__floordiv__": None, "__eq__": None, "rank": [], "kernel": [],
        "image": [], "solve": ["word"], "turned": [], "moved": ["space"], "origin": ["space"], "beside": ["other"],
        "stacked": ["other"]},
    ("spreads", "Spread"): {
        "__init__": ["bits", "slots", "lanes"], "__or__": None, "__floordiv__": None, "__eq__": None,
        "entry": ["slot", "lane"], "lane_of": ["entry"], "slot_of": ["entry", "lane"], "held": ["lane"],
        "slot_space": [], "lane_space": [], "twins": [], "copies": [], "placing": [], "together": ["entries"],
        "renamed": ["change"], "parts": []},
    ("tables", "Table"): {
        "__init__": ["groups"], "__eq__": None, "part": ["name"], "write_word": ["word"], "read_word": ["text"],
        "write": ["spread"], "read": ["text"]},
    ("rounds", "RoundPlan"): {"take": ["number", "lane"], "when": ["lane", "entry"]},
    ("stages", "Stage"): {"__init__": ["slot_bits", "lane_bits", "step", "test"], "place": ["word"], "moving": []},
    ("stages", "StagePlan"): {},
    ("hops", "HopPlan"): {"route": ["lane", "entry"]},
    ("sums", "SumPlan"): {"__init__": ["spread", "space"], "take": ["number", "lane"], "home": ["entry"]},
    ("writes", "Writes"): {"__init__": ["spread"], "slot_in": ["number", "lane"]},
    ("stores", "Store"): {
        "__init__": ["change", "banks"], "bank": ["entry"], "bank_map": [], "meeting": ["space"],
        "fits": ["spread", "width"], "touched": ["spread", "width"], "beats": ["spread", "width"]},
    ("prices", "Prices"): {"__init__": ["swap", "transfer", "beat"]},
    ("threes", "Three"): {"__init__": ["one", "two", "three"], "numbers": [], "leading": ["other"]},
    ("cores", "Core"): {},
    ("sizes", "Size"): {
        "__init__": ["first", "cycle", "gain"], "__call__": ["n"], "__add__": None, "__radd__": None, "__sub__": None,
        "__rsub__": None, "__mul__": None, "__rmul__": None, "__eq__": None, "greater": ["other"],
        "below_at": ["other"], "equal_at": ["other"]},
    ("sizes", "Sizes"): {
        "__init__": ["few", "start", "period", "rests"], "__contains__": None, "__and__": None, "__or__": None,
        "__invert__": None, "__eq__": None, "least": [], "many_below": ["n"], "is_all": None, "is_empty": None},
    ("families", "Family"): {"__init__": ["outs", "ins", "rules"], "sized": ["n"], "__add__": None, "__eq__": None},
    ("growing", "Growing"): {"__init__": ["slots", "lanes"], "sized": ["n"], "copies": []},
    ("costs", "Cost"): {
        "__init__": ["terms"], "__call__": ["n"], "__add__": None, "__sub__": None, "__mul__": None, "__rmul__": None,
        "__eq__": None, "below_at": ["other"], "equal_at": ["other"]},
    ("desk", "Desk"): {
        "__init__": [], "put": ["name", "thing"], "drop": ["name"], "rename": ["change"], "keep": ["promise"],
        "release": ["promise"], "undo": [], "__getitem__": None, "__contains__": None, "__len__": None, "names": [],
        "promises": [], "holds": ["promise"], "undoable": [], "attempt": ["action"], "trial": ["action"]},
}


class InterfaceTest(unittest.TestCase):

    def test_functions(self):
        for name, functions in FUNCTIONS.items():
            module = import_module("laneswap." + name)
            for function, parameters in functions.items():
                made = getattr(module, function)
                self.assertEqual(made.__module__, "laneswap." + name)
                self.assertEqual(list(inspect.signature(made).parameters), parameters)

    def test_properties(self):
        kind = import_module("laneswap.sizes").Sizes
        self.assertIsInstance(vars(kind)["is_all"], property)
        self.assertIsInstance(vars(kind)["is_empty"], property)

    def test_methods_stand_in_the_class_itself(self):
        for (name, kind), methods in METHODS.items():
            made = getattr(import_module("laneswap." + name), kind)
            self.assertEqual(made.__module__, "laneswap." + name)
            for method, parameters in methods.items():
                self.assertIn(method, vars(made))
                if parameters is not None:
                    found = list(inspect.signature(vars(made)[method]).parameters)
                    self.assertEqual(found[1:], parameters, (kind, method))


if __name__ == "__main__":
    unittest.main()
