import unittest

from laneswap import errors

FIELDS = {
    "BadValue": ["value"], "NotOneToOne": ["word"], "NotOnto": ["word"], "NotDivisible": ["word"], "NotApart": [],
    "TooLarge": ["dimension"], "Unequal": ["one", "other"], "Unknown": ["name"], "BadText": ["value"],
    "BadLine": ["at"], "NotFitting": [], "Filled": ["rows"], "BadRule": ["index"], "OtherTracks": [],
    "NotChained": ["index"], "NotOntoAt": ["size"], "Unfit": ["width"], "BadPromise": ["promise"],
    "Broken": ["promise"], "NotMade": ["promise"], "NothingToUndo": [], "HasCopies": [], "OddStep": [],
    "NotWanted": [], "TooWide": ["index"],
}
VALUES = [None, -1, True, 0, 3, 1 << 5000, "a", "", [1, [2]], (1, 2), {"a": 1}, object(), ValueError("x"), 1.5]


class ErrorsTest(unittest.TestCase):

    def test_there_are_just_these_errors(self):
        found = [name for name, value in vars(errors).items() if isinstance(value, type)]
        self.assertEqual(sorted(found), sorted(["LaneError"] + list(FIELDS)))

    def test_kinds(self):
        self.assertEqual(errors.LaneError.__bases__, (ValueError,))
        for name in FIELDS:
            self.assertEqual(getattr(errors, name).__bases__, (errors.LaneError,), name)

    def test_made_by_position_by_name_and_by_both(self):
        for name, fields in FIELDS.items():
            make = getattr(errors, name)
            for at in range(len(VALUES)):
                values = [VALUES[(at + k) % len(VALUES)] for k in range(len(fields))]
                for many in range(len(fields) + 1):
                    error = make(*values[:many], **dict(zip(fields[many:], values[many:])))
                    self.assertEqual(sorted(vars(error)), sorted(fields))
                    for field, value in zip(fields, values):
                        self.assertIs(getattr(error, field), value)

    def test_names_in_any_order(self):
        error = errors.Unequal(other="b", one="a")
        self.assertEqual((error.one, error.other), ("a", "b"))

    def test_fields_are_needed_and_no_more_are_taken(self):
        for name, fields in FIELDS.items():
            make = getattr(errors, name)
            if fields:
                with self.assertRaises(TypeError):
                    make()
                with self.assertRaises(TypeError):
                    make(*fields, 1)

    def test_raised_and_caught(self):
        for name, fields in FIELDS.items():
            make = getattr(errors, name)
            for kind in (make, errors.LaneError, ValueError):
                with self.assertRaises(kind):
                    raise make(*fields)


if __name__ == "__main__":
    unittest.main()
